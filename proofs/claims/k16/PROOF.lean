import PyProof.Rows.All
import KE.KStateDown
import HandS.Head0
import HandS.Head1
import HandS.Head2
import Wide.All
import OpenK.AllK
import Wide.FinOn
import HandS.ForMost
import HandS.Exc
import HandS.TryOnly
import HandS.ExcInit
import HandS.Nested
import KE.KExcSuper
import HandS.Defaults
import HandS.IsInst
import HandS.ExcIs
import HandS.ExcField
import HandS.WordsExc
import HandS.More
import HandS.Codes
import HandS.DictComp
import HandS.Property
import HandS.MakeKw
import HandS.MakeKwOnly
import HandS.SlotsOwn
import KE.KExcIs
import HandS.Text
import HandS.Walk
import HandS.FStr
import HandS.List
import HandS.Conv
import HandS.IterVal
import HandS.Star
import KE.KOwnIter
import HandS.WordsDict
import HandS.SortInts
import HandS.TupAny
import KE.GoesEnumKw
import HandS.SortKw
import HandS.RaiseFrom
import HandS.Finally
import PyProof.FitsInt
import HandS.CallSlots
import HandS.Flow
import HandS.ExcSuper
import HandS.TryMany
import HandS.NoneIn
import HandS.TupLe
import PySem.Challenge.RW_stamprules_k16_a_desk_follows_the_run
set_option Elab.async false
set_option linter.all false
set_option maxRecDepth 100000
set_option maxHeartbeats 4000000
/-! An own exception over ValueError, through a chain of own classes, whose own __init__ begins with super().__init__(..): that __init__ keeps a promise. -/
namespace SI
open PySem PySem.Spec PyProof.Rows L2 NdefX

/-- what the written part tells of the class at C, of the class at D in which the __init__ stands, and of that function at f -/
structure SupT (prog : Program) (K : PySem.W.Frag) (mg : Str → Option Value) (D f cda cc : Addr) (F : NF) (fd : FuncData) : Prop where
  oex : OexC K D
  sup : PySem.W.ks_superIn K D D "__init__" = some (some (.builtin "ValueError.__init__"))
  vE : PySem.W.subIn K (.ref D) (.type "ValueError") = some true
  mD : PySem.W.mroIn K D (.ref D) = some true
  th : PySem.W.nsIn K cStatics "thirdparty.any" = some none
  noSuper : mg "super" = none
  cl : F.cl = [(("__class__" : Str), cc)]
  cdF : F.c = cda
  fn : ∃ (oc kV doc pm ct : Value) (od : Option Addr) (an : Option Addr) (osl : Array (Option Value)),
    fd = PySem.W.fnX F.name F.qual F.params F.body F.scope F.cl .none kV doc pm an (.ref cda) ct ∧ K.lookup f = some ⟨oc, od, .func fd, osl⟩
  code : ∃ (ccl : Value) (cdd : Option Addr) (vs : Array Value) (ccs : Array (Option Value)) (file : Str) (tf : Tok), K.lookup cda = some ⟨ccl, cdd, .fields vs, ccs⟩ ∧ vs[2]? = some (.str file tf) ∧ ((prog.main.file : Str) == file) = true
  codeR : PySem.W.codeIn K (.ref cda) F.qual = true
  cell : ∃ (ccl : Value) (cdd : Option Addr) (ccs : Array (Option Value)), K.lookup cc = some ⟨ccl, cdd, .cell (some (.ref D)), ccs⟩
  top : (prog.main.scope.names.lookup ("super" : Str)).isSome = false

theorem clsIn_of {K : PySem.W.Frag} {C : Addr} (T : OexC K C) : ∃ cd, PySem.W.clsIn K C = some cd ∧ cd.mro.contains (.type "object") = true := by
  obtain ⟨nm, q, N, bs, bm, sn, sub, ab, col, dd, k0, k1, k2, k3, k5, hC, hbm⟩ := T.cls
  refine ⟨{ name := nm, bases := bs, mro := .ref C :: bm, ns := N, qualname := q, hasDict := true, slotNames := sn, subclasses := sub, abstract := ab, collection := col, hasDel := false }, ?_, ?_⟩
  · unfold PySem.W.clsIn; rw [hC] <;> rfl
  · exact (PySem.HandSPX.refsVE_contains "object" (.ref C :: bm) hbm).trans (by decide +kernel)

section
variable {prog : Program} {w : World} {A : Around} {E : Value → Shared → Prop} {h : Heap} {g : Array GenState} {d : Drawn} {t : Nat} {os : OsState}
theorem bw_call {K : PySem.W.Frag} {u e C t0 : Addr} {rest : List Value} {Q : Value → Shared → Prop} (T : OexC K C) (X : K.In h) (he : h.get? e = some (HandSPX.excO C t0)) (hu : h.get? u = some (PySem.W.kxs_mw "ValueError.__init__" e)) (hrest : rest.length ≤ sizeLine)
    (hq : ∀ h' t1, (∀ b o, b ≠ e → h.get? b = some o → h'.get? b = some o) → h'.get? e = some (HandSPX.excO C t1) → Q .none ⟨h', g, d, t, os⟩) :
    wpAny (model prog w) A (call (.ref u) rest) Q E ⟨h, g, d, t, os⟩ := by
  obtain ⟨nm, q, N, bs, bm, sn, sub, ab, col, dd, k0, k1, k2, k3, k5, hC, hbm⟩ := T.cls
  have hC' := X _ _ hC
  refine wpAny_call (codeAny_of_tree ?_)
  show wpAny _ A.in1 (callAny (.ref u) ⟨rest, []⟩) _ _ _
  simp only [callAny]
  refine wpAny_bind (wpAny_load hu ?_)
  simp only [PySem.W.kxs_mw, show (Value.type "method-wrapper" == Value.type "method" || Value.type "method-wrapper" == Value.type "builtin_function_or_method" || Value.type "method-wrapper" == Value.type "method-wrapper") = true by decide, if_true]
  refine PySem.W.KFB.if_so (by decide) ?_
  refine wpAny_bind (PySem.W.check_bound_init F.excBase_ValueError.toExcCallFacts hC' he rfl ?_)
  refine wpAny_bind (wpAny_pure (wpAny_pure ?_))
  refine ⟨plainId_quiet F.excBase_ValueError.init.plain _, codeAny_builtin F.excBase_ValueError.initEntry ?_⟩
  exact PySem.W.exc_init_tree (cls := .ref C) (t0 := t0) (dv := none) (c2 := .none) (c3 := .none) (b4 := .bool false) he hrest (fun h' k e' t' => hq h' _ k e')
end

section
variable {X : Cx} {es : List Expr} {ta : TA} {p0 p1 p2 p3 p4 : Pos} {body : List Stmt} {pins : List (Addr × Obj)} {σ : L2.St} {H : Hp} {s : Shared} {a D f cda cc : Addr} {F : NF} {fd : FuncData} {ar : Arg} {Q : Hp → Prop}
/-- super().__init__(..) as a statement of an __init__ -/
theorem sup_stmt {pl : Sem Bool} (T : SupT X.prog X.K X.mg D f cda cc F fd) (henv : X.env = envF F f X.env.locals)
    (hks : F.scope.names.lookup ("super" : Str) = some .globalImplicit) (hkc : F.scope.names.lookup ("__class__" : Str) = some .free)
    (hp : (F.params.posonlyargs ++ F.params.args).head? = some ar) (hka : F.scope.names.lookup ar.arg = some .local) (hN : X.N[0]? = some ar.arg)
    (ha : PA X es ta) (hpl : (backTo p3 (starEach es X.env)).any (·.1) = false) (hst : ∀ (u : Value) (Q' : Args → Shared → Prop) (s' : Shared), wpAny (model X.prog X.w) X.A (spliced (backTo p3 (starEach es X.env))) (fun vs s₁ => Q' ⟨vs, []⟩ s₁) X.xe s' → wpAny (model X.prog X.w) X.A (evalArgs u true (backTo p3 (starEach es X.env)) []) Q' X.xe s')
    (hev : eval (.Call (.Attribute (.Call (.Name "super" p0) [] [] p1) "__init__" p2) es [] p3) X.env = (do
      let ov ← attributeBase (.Call (.Name "super" p0) [] [] p1) "__init__" X.env (eval (.Call (.Name "super" p0) [] [] p1) X.env)
      standAt p2.atName
      let (f, first) ← holding [ov] (getMethod ov "__init__" pl)
      callWith p3 f first (backTo p3 (starEach es X.env)) []))
    (hsw : swapsWith (.Call (.Attribute (.Call (.Name "super" p0) [] [] p1) "__init__" p2) es [] p3) none p4.line X.env = pure false)
    (I : Inv X pins σ H s) (e0 : σ[0]? = some (some (.ref a))) (ea : H a = some (exo a D none))
    (h : ta σ H fun vs H1 => vs.length ≤ 1000 ∧ H1 a = some (exo a D none) ∧ Q H1) :
    _root_.PySem.wpAt (model X.prog X.w) X.A (.func body X.env) (exec (.Expr (.Call (.Attribute (.Call (.Name "super" p0) [] [] p1) "__init__" p2) es [] p3) p4) X.env) (fun fl s' => fl = .next ∧ ∃ H', Inv X pins σ H' s' ∧ Q H') X.xe s := by
  obtain ⟨fn, _⟩ : True ∧ True := ⟨trivial, trivial⟩
  obtain ⟨oc, kV, doc, pm, ct, od, an, osl, rfl, hfn⟩ := T.fn
  obtain ⟨ccl, cdd, vs, ccs, file, tf, hcode, hvs, hfile⟩ := T.code
  obtain ⟨cl, cld, csl, hcell⟩ := T.cell
  obtain ⟨cdD, hD, hob⟩ := clsIn_of T.oex
  have KX := I.kIn
  have hki : ∀ x, X.env.kindOf x = List.lookup x F.scope.names := fun x => by rw [henv] <;> rfl
  have hkind : X.env.scope.kind = .function := I.ok.kind
  obtain ⟨oD, hD1, hD2⟩ : ∃ oD, s.heap.get? D = some oD ∧ oD.data = .cls cdD := by
    unfold PySem.W.clsIn at hD
    split at hD
    · rename_i c d cd' sl ho
      cases hD
      exact ⟨_, KX _ _ ho, rfl⟩
    · cases hD
  obtain ⟨t1, ho⟩ := exo_at I.hok ea
  have hxD : a ≠ D := by
    rintro rfl
    rw [ho] at hD1
    cases hD1
    cases hD2
  refine ks_wpAt_Expr_any (ks_wpAt_MethodCall (pl := pl) ?_ hev) (by simp [interactive, hkind]) hsw
  have hcells : X.env.cells = [(("__class__" : Str), cc)] := by rw [henv]; exact T.cl
  refine ks_wpAt_super_base (f := f) (cc := cda) (of := ⟨oc, od, .func (PySem.W.fnX F.name F.qual F.params F.body F.scope F.cl .none kV doc pm an (.ref cda) ct), osl⟩) (oc := ⟨ccl, cdd, .fields vs, ccs⟩)
    (by rw [hki]; exact hks) (by rw [hki]; exact hkc) (by decide +kernel) (by rw [henv] <;> rfl) (KX _ _ hfn) rfl hp (by rw [henv, ← T.cdF] <;> rfl) (KX _ _ hcode) rfl hvs hfile T.top ?_
  obtain ⟨mb, hb1, hb2⟩ := I.mod.blt
  refine PySem.W.ks_loadName_global hkind (by rw [hki]; exact hks) (PySem.Calls.loadGlobal_builtin (by rw [I.ok.glob]; exact I.mod.glob.keeps I.bk) T.noSuper (by rw [I.ok.blt]; exact hb1.keeps I.bk) ((hb2 _ (by decide)).trans (by decide +kernel : bootBuiltins ("super" : Str) = some (.type "super"))) ⟨rfl, ?_⟩)
  refine wpAny_loadName_free hkind (by rw [hki]; exact hkc) (by rw [hcells]; rfl) ⟨_, KX _ _ hcell, rfl⟩ ?_
  obtain ⟨m, hn, hl⟩ := I.loc
  obtain ⟨u, ru, lk⟩ := hl 0 ar.arg (.ref a) hN e0 (by rw [henv]; exact Or.inl hka)
  obtain rfl : u = Value.ref a := ru
  have hm : m ar.arg = some (.ref a) := by
    rcases lk with ⟨_, z⟩ | ⟨z, _⟩
    · exact z
    · rw [hki, hka] at z
      rcases z with z | z <;> cases z
  refine wpAny_loadName_local hkind (by rw [hki]; exact hka) hn hm ?_
  obtain ⟨hh, g, d, t, os⟩ := s
  refine ks_wpAny_isType_cls hD1 hD2 ⟨rfl, ?_⟩
  refine ks_wpAny_call_super hD1 hD2 ho rfl (fun c e => by cases e) (PySem.W.looks_mroIn KX T.mD) (fun h' hso kp => ?_)
  -- the super object stands at so; now its __init__
  have I1 : Inv X pins σ H ⟨h', g, d, t, os⟩ := I.kept (t' := t) kp
  have KX1 := I1.kIn
  have ho1 := kp _ _ ho
  have hB : PySem.W.Looks (model X.prog X.w) h' (isInstance (.ref a) (.type "ValueError")) true :=
    (PySem.W.InstAt.type (x := a) (ox := HandSPX.excO D t1) (C := D) (od := none) ⟨ho1, rfl, rfl, trivial⟩).andThen (PySem.W.looks_subIn KX1 T.vE)
  have hf := T.sup
  unfold PySem.W.ks_superIn at hf
  rw [hD] at hf
  refine PySem.W.kxs_getMethod (K := X.K) PySem.W.kxs_ValueError hso (PySem.W.looks_opaque KX1 T.th) (l₀ := cdD.mro) ?_ rfl KX1 hf hB hxD (by decide +kernel) ?_
  · exact fun A Q E s k q => wpAny_bind ((PySem.W.looks_clsIn KX1 hD) A _ E s k (wpAny_pure q))
  -- the arguments
  have kp2 : ∀ b u, h'.get? b = some u → (h'.push (PySem.W.kxs_mw "ValueError.__init__" a)).get? b = some u := fun b u e => Heap.get?_push_of_some _ e
  have I2 : Inv X pins σ H ⟨h'.push (PySem.W.kxs_mw "ValueError.__init__" a), g, d, t + 1, os⟩ := I1.kept (t' := t + 1) kp2
  have hu : (h'.push (PySem.W.kxs_mw "ValueError.__init__" a)).get? h'.objs.size = some (PySem.W.kxs_mw "ValueError.__init__" a) := Heap.get?_push_size _ rfl
  have I3 : Inv X (pins ++ [(h'.objs.size, PySem.W.kxs_mw "ValueError.__init__" a)]) σ H ⟨h'.push (PySem.W.kxs_mw "ValueError.__init__" a), g, d, t + 1, os⟩ := by
    refine I2.pins_of fun p hp => ?_
    rcases List.mem_append.mp hp with hp | hp
    · exact I2.pin p (List.mem_append_right _ hp)
    · rw [List.mem_singleton] at hp
      subst hp
      refine ⟨hu, I1.hok.fresh (Nat.le_refl _), ?_, I1.nofs (Nat.le_refl _), fun v z => by cases z⟩
      exact fun z => absurd (I1.lt) (by rw [← z]; exact Nat.lt_irrefl _)
  refine PySem.W.kxs_callWith (i := "ValueError.__init__") (x := a) hpl (hst _ _ _ (thn (ha.run p3 _ _ σ H _ I3 h) fun us s1 ⟨vs1, H1, J, r1, hz, ea1, q⟩ => ?_))
  have hu1 := (J.pin (h'.objs.size, PySem.W.kxs_mw "ValueError.__init__" a) (by simp)).1
  refine ⟨hu1, ?_⟩
  have J0 : Inv X pins σ H1 s1 := J.pins_of fun p hp => J.pin p (List.mem_append_right _ (List.mem_append_left _ hp))
  obtain ⟨t2, ho2⟩ := exo_at J.hok ea1
  obtain ⟨h1, g1, d1, tk1, os1⟩ := s1
  have hlen : us.length ≤ sizeLine := by
    rw [← Paired.length r1, sizeLine_eq]
    omega
  refine bw_call T.oex J.kIn ho2 hu1 hlen fun h2 t3 k hx => ⟨rfl, H1, ?_, q⟩
  have W := J0.write (t' := tk1) (x := a) (e := a) (o := exo a D none) (by rw [ea1]; exact True.intro) (.inl rfl) k ⟨_, hx⟩ (exo_ok hx)
  have eu : upd H1 a (exo a D none) = H1 := by
    funext b
    by_cases hb : b = a
    · rw [hb, upd_same, ea1]
    · rw [upd_ne hb]
  rw [eu] at W
  exact W
end

section
variable {CX : CXT} {P : Program} {w : World} {K : PySem.W.Frag} {mg : Str → Option Value} {base : Heap} {k : Nat} {D f cda cc : Addr} {F : NF} {fd : FuncData} {N ps : List Str} {sp : Sp} {es : List Expr} {rest : List Stmt} {p0 p1 p2 p3 p4 : Pos} {ar : Arg}
abbrev sfr : List Str := [("__class__" : Str)]
abbrev st0 (N : List Str) (vs : List V) : L2.St := startF N vs [none]
/-- THE RULE: an exception's __init__ that begins with super().__init__(..) -/
theorem ok_sup (T : SupT P K mg D f cda cc F fd) (S : NScope N ps sfr F.scope) (hbody : F.body = .Expr (.Call (.Attribute (.Call (.Name "super" p0) [] [] p1) "__init__" p2) es [] p3) p4 :: rest)
    (hks : F.scope.names.lookup ("super" : Str) = some .globalImplicit) (hp : (F.params.posonlyargs ++ F.params.args).head? = some ar) (hps : ps[0]? = some ar.arg)
    (len : ∀ vs H Q E, sp vs H Q E → vs.length = ps.length)
    (hb : ∀ (A : Around) (outer : List Env) (s : Shared) (H : Hp) (vs : List V) (Q : VK) (E : XK), Room k (A.deeper (envF F f s.heap.objs.size)) → sp vs H Q E →
      ∃ (a : Addr) (ta : TA) (t : TS) (pl : Sem Bool), PA (ncx CX P w K mg base N F f A outer s H E) es ta ∧ PSs (ncx CX P w K mg base N F f A outer s H E) rest t ∧
        (backTo p3 (starEach es (envF F f s.heap.objs.size))).any (·.1) = false ∧
        (∀ (M : Model) (B : Around) (u : Value) (Q' : Args → Shared → Prop) (E' : Value → Shared → Prop) (s' : Shared), wpAny M B (spliced (backTo p3 (starEach es (envF F f s.heap.objs.size)))) (fun vs s₁ => Q' ⟨vs, []⟩ s₁) E' s' → wpAny M B (evalArgs u true (backTo p3 (starEach es (envF F f s.heap.objs.size))) []) Q' E' s') ∧
        eval (.Call (.Attribute (.Call (.Name "super" p0) [] [] p1) "__init__" p2) es [] p3) (envF F f s.heap.objs.size) = (do
          let ov ← attributeBase (.Call (.Name "super" p0) [] [] p1) "__init__" (envF F f s.heap.objs.size) (eval (.Call (.Name "super" p0) [] [] p1) (envF F f s.heap.objs.size))
          standAt p2.atName
          let (g, first) ← holding [ov] (getMethod ov "__init__" pl)
          callWith p3 g first (backTo p3 (starEach es (envF F f s.heap.objs.size))) []) ∧
        swapsWith (.Call (.Attribute (.Call (.Name "super" p0) [] [] p1) "__init__" p2) es [] p3) none p4.line (envF F f s.heap.objs.size) = pure false ∧
        vs[0]? = some (.ref a) ∧ H a = some (exo a D none) ∧ ta (st0 N vs) H fun ws H1 => ws.length ≤ 1000 ∧ H1 a = some (exo a D none) ∧ t { nx := fun _ H' => Q .non H', rt := Q } (st0 N vs) H1) :
    FnOk P w K mg base CX (k + 1) f fd ps sp := by
  refine ⟨len, fun A outer s H args us vs Q E hr e0 hbd r hsp => ?_⟩
  have hl := len _ _ _ _ hsp
  have KX : K.In s.heap := e0.mod.kin.keeps fun b o e => (e0.bs b o e).1
  have lim : s.heap.NoLimit := e0.mod.nolimit.keeps fun b o e => (e0.bs b o e).1
  obtain ⟨oc, kV, doc, pm, ct, od, an, osl, efd, hfn⟩ := T.fn
  obtain ⟨cl, cld, csl, hcell⟩ := T.cell
  have hcc := KX _ _ hcell
  have hHc : H cc = none := (e0.bs _ _ (e0.mod.kin _ _ hcell)).2
  have C : CellsAt F.cl sfr [none] s.heap H := by
    rw [T.cl]
    refine ⟨rfl, fun y c e => ?_, fun x y c e1 e2 => ?_, fun i y hy => ?_⟩
    · have ec : c = cc := by
        simp only [List.lookup] at e
        split at e
        · exact (Option.some.inj e).symm
        · cases e
      subst ec
      exact ⟨hHc, _, _, hcc, rfl⟩
    · have key : ∀ {z : Str}, List.lookup z [(("__class__" : Str), cc)] = some c → z = ("__class__" : Str) := fun {z} e => by
        simp only [List.lookup] at e
        split at e
        · rename_i q
          exact eq_of_beq q
        · cases e
      rw [key e1, key e2]
    · cases i with
      | zero =>
        have hy' : some ("__class__" : Str) = some y := hy
        cases hy'
        exact ⟨cc, by simp [List.lookup], fun v e => by cases e⟩
      | succ i =>
        have : sfr[i + 1]? = none := rfl
        rw [this] at hy
        cases hy
  have hka : F.scope.names.lookup ar.arg = some .local := S.par _ (List.mem_of_getElem? hps)
  have hkc : F.scope.names.lookup ("__class__" : Str) = some .free := S.frk _ (by simp)
  have hN : N[0]? = some ar.arg := by
    have q : (ps ++ sfr)[0]? = some ar.arg := by
      rw [List.getElem?_append_left (List.getElem?_eq_some_iff.mp hps).1]
      exact hps
    rw [← S.pre, List.getElem?_take_of_lt (by have := (List.getElem?_eq_some_iff.mp hps).1; omega)] at q
    exact q
  subst efd
  refine PySem.ks_codeAny_call_defAt (fd := PySem.W.fnX F.name F.qual F.params F.body F.scope F.cl .none kV doc pm an (.ref cda) ct) (body := F.body) hr.depth (KX _ _ hfn) rfl lim (PySem.W.codeRec_of KX T.codeR) rfl hbd S.nocell (fun ⟨n, _⟩ hy => S.par n (List.of_mem_zip hy).1) (fun h₁ hns kp => ?_) S.co S.gen S.kind
  obtain ⟨a, ta, t, pl, hPA, hPS, hpl, hst, hev, hsw, ea, eH, hq⟩ := hb A outer s H vs Q E (hr.deeper _) hsp
  have I : Inv (ncx CX P w K mg base N F f A outer s H E) [] (startF N vs [none]) H { s with heap := h₁, toks := s.toks + (ps.zip us).length } := inv_startN S hr.hd e0 hl r C hns kp
  have eenv : PySem.callEnv (PySem.W.fnX F.name F.qual F.params F.body F.scope F.cl .none kV doc pm an (.ref cda) ct) s.heap.objs.size f = envF F f s.heap.objs.size := by
    rw [← T.cdF]
    rfl
  rw [eenv]
  have fin : ∀ {s' : Shared} {σ' : L2.St} {H' : Hp} {v : V} {u : Value}, Inv (ncx CX P w K mg base N F f A outer s H E) [] σ' H' s' → L2.RelV v u → Q v H' → CE outer P w H s Q u s' :=
    fun {s' σ' H' v u} J rv q => ⟨v, H', J.os, J.bare, J.base, J.hok, rv, q⟩
  rw [hbody]
  have e0' : (startF N vs [none])[0]? = some (some (V.ref a)) := by
    unfold startF
    have hi := (List.getElem?_eq_some_iff.mp ea).1
    rw [List.getElem?_append_left (by rw [List.length_map]; exact hi), List.getElem?_map, ea]
    rfl
  have first := sup_stmt (X := ncx CX P w K mg base N F f A outer s H E) (body := F.body) (pl := pl) T rfl hks hkc hp hka hN hPA hpl (fun u Q' s' z => hst _ _ u Q' _ s' z) hev hsw I e0' eH hq
  rw [hbody] at first
  refine PySem.ks_wpAt_execs_cons (PySem.ks_wpAt_mono first (fun fl s' hs => ?_) fun e s' hs => hs)
  obtain ⟨rfl, H1, J, q⟩ := hs
  refine PySem.wpAt_of_wpAny (wpAny_mono (hPS.run [] s' _ H1 _ J q) (fun fl s2 hs => ?_) fun e s2 hs => hs)
  cases fl with
  | ret u =>
    obtain ⟨v, σ', H', J, rv, q⟩ := hs
    exact fin J rv q
  | next =>
    obtain ⟨σ', H', J, q⟩ := hs
    exact fin (v := V.non) (u := Value.none) J rfl q
  | brk =>
    obtain ⟨_, _, _, q⟩ := hs
    exact False.elim q
  | cont =>
    obtain ⟨_, _, _, q⟩ := hs
    exact False.elim q
end
end SI

namespace K16
open PySem L2
def top (i : Nat) : Stmt := PySem.Challenge.pw_stamprules_k16_a_desk_follows_the_run.main.body.getD i (.Pass ⟨0, 0, 0, 0⟩)
abbrev s_BadStamp_init : Stmt := inClass (top 3) 0
abbrev s_BadEntry_init : Stmt := inClass (top 4) 0
abbrev s_BadAnswer_init : Stmt := inClass (top 5) 0
abbrev s_BadSetting_init : Stmt := inClass (top 6) 0
abbrev s_BadStep_init : Stmt := inClass (top 7) 0
abbrev s_Finished_init : Stmt := inClass (top 8) 0
abbrev s_MustWait_init : Stmt := inClass (top 9) 0
abbrev s_TooLate_init : Stmt := inClass (top 10) 0
abbrev s_BrokenOff_init : Stmt := inClass (top 11) 0
abbrev s_Stamp_init : Stmt := inClass (top 15) 0
abbrev s_Stamp_lt : Stmt := inClass (top 15) 3
abbrev s_Item_init : Stmt := inClass (top 18) 0
abbrev s_State_init : Stmt := inClass (top 19) 0
abbrev s_Desk_init : Stmt := inClass (top 41) 0
abbrev s_Desk_begin : Stmt := inClass (top 41) 1
abbrev s_Desk_state_of : Stmt := inClass (top 41) 5
abbrev s_Desk_settle : Stmt := inClass (top 41) 6
abbrev s_Desk_take : Stmt := inClass (top 41) 7
abbrev s_Desk_ask : Stmt := inClass (top 41) 8
abbrev s_Reader_read : Stmt := inClass (top 42) 0
abbrev s_Writer_write : Stmt := inClass (top 43) 0
abbrev s_Transaction_init : Stmt := inClass (top 44) 0
abbrev s_Transaction_commit : Stmt := inClass (top 44) 1
abbrev s_Transaction_abort : Stmt := inClass (top 44) 2
abbrev s_Book_init : Stmt := inClass (top 79) 0
abbrev s_Book_ends : Stmt := inClass (top 79) 1
abbrev s_Book_keep : Stmt := inClass (top 79) 2
abbrev s_Book_copy : Stmt := inClass (top 79) 3
abbrev s_Book_getitem : Stmt := inClass (top 79) 4
abbrev s_is_stamp : Stmt := top 14
abbrev s_place : Stmt := top 16
abbrev s_first_state : Stmt := top 20
abbrev s_item_of : Stmt := top 21
abbrev s_ascending : Stmt := top 22
abbrev s_taken : Stmt := top 23
abbrev s_committed : Stmt := top 24
abbrev s_settled : Stmt := top 25
abbrev s_aborted : Stmt := top 26
abbrev s_without : Stmt := top 27
abbrev s_falling : Stmt := top 28
abbrev s_released : Stmt := top 29
abbrev s_requested : Stmt := top 30
abbrev s_asked : Stmt := top 31
abbrev s_entry_met : Stmt := top 32
abbrev s_fixed_answer : Stmt := top 33
abbrev s_older_values : Stmt := top 34
abbrev s_value_read : Stmt := top 35
abbrev s_binds : Stmt := top 36
abbrev s_with_bond : Stmt := top 37
abbrev s_with_reader : Stmt := top 38
abbrev s_with_item : Stmt := top 39
abbrev s_play : Stmt := top 52
abbrev s_traced : Stmt := top 54
abbrev s_check_run : Stmt := top 55
abbrev s_is_step : Stmt := top 56
abbrev s_is_name : Stmt := top 57
abbrev s_answers_at : Stmt := top 74
abbrev s_check_answer : Stmt := top 76
abbrev s_is_keep : Stmt := top 77
abbrev s_law_cell : Stmt := top 81
abbrev s_law_row : Stmt := top 82
abbrev s_law_entries : Stmt := top 83
abbrev s_law_choices : Stmt := top 84
abbrev s_law_table : Stmt := top 85
abbrev s_law_fits : Stmt := top 86
abbrev s_law_sound : Stmt := top 87
abbrev s_law_terms : Stmt := top 88
abbrev s_law_marks : Stmt := top 89
abbrev s_law_names : Stmt := top 90
abbrev s_law_steps : Stmt := top 91
abbrev s_law_one : Stmt := top 92
abbrev s_law_run : Stmt := top 93
abbrev s_law_ints : Stmt := top 94
abbrev s_law_asked : Stmt := top 95
abbrev s_law_agrees : Stmt := top 96
abbrev s_law : Stmt := top 97
/-- what isinstance asks of an own class -/
structure IsI (K : PySem.W.Frag) (C : Addr) : Prop where
  ha : PySem.W.findIn K (.ref C) "__class__" = some (some (.builtin "object.__class__"))
  hm : PySem.W.mroIn K C (.type "object") = some true
structure IsG (K : PySem.W.Frag) : Prop where
  hn : PySem.W.specialIn K (.builtin "object.__class__") "__get__" = some (some (.builtin "getset_descriptor.__get__"))
  ht : PySem.W.takesIn K (.builtin "object.__class__") = some true
/-- what the top has written -/
structure Txt (w : World) (K : PySem.W.Frag) (mg : Str → Option Value) where
  isg : IsG K
  c_StampError : Addr
  g_StampError : mg "StampError" = some (.ref c_StampError)
  k_StampError : PySem.W.keepIn K (.ref c_StampError) = true
  c_BadStamp : Addr
  g_BadStamp : mg "BadStamp" = some (.ref c_BadStamp)
  k_BadStamp : PySem.W.keepIn K (.ref c_BadStamp) = true
  c_BadEntry : Addr
  g_BadEntry : mg "BadEntry" = some (.ref c_BadEntry)
  k_BadEntry : PySem.W.keepIn K (.ref c_BadEntry) = true
  c_BadAnswer : Addr
  g_BadAnswer : mg "BadAnswer" = some (.ref c_BadAnswer)
  k_BadAnswer : PySem.W.keepIn K (.ref c_BadAnswer) = true
  c_BadSetting : Addr
  g_BadSetting : mg "BadSetting" = some (.ref c_BadSetting)
  k_BadSetting : PySem.W.keepIn K (.ref c_BadSetting) = true
  c_BadStep : Addr
  g_BadStep : mg "BadStep" = some (.ref c_BadStep)
  k_BadStep : PySem.W.keepIn K (.ref c_BadStep) = true
  c_Finished : Addr
  g_Finished : mg "Finished" = some (.ref c_Finished)
  k_Finished : PySem.W.keepIn K (.ref c_Finished) = true
  c_MustWait : Addr
  g_MustWait : mg "MustWait" = some (.ref c_MustWait)
  k_MustWait : PySem.W.keepIn K (.ref c_MustWait) = true
  c_TooLate : Addr
  g_TooLate : mg "TooLate" = some (.ref c_TooLate)
  k_TooLate : PySem.W.keepIn K (.ref c_TooLate) = true
  c_BrokenOff : Addr
  g_BrokenOff : mg "BrokenOff" = some (.ref c_BrokenOff)
  k_BrokenOff : PySem.W.keepIn K (.ref c_BrokenOff) = true
  c_Stamp : Addr
  g_Stamp : mg "Stamp" = some (.ref c_Stamp)
  k_Stamp : PySem.W.keepIn K (.ref c_Stamp) = true
  c_Item : Addr
  g_Item : mg "Item" = some (.ref c_Item)
  k_Item : PySem.W.keepIn K (.ref c_Item) = true
  c_State : Addr
  g_State : mg "State" = some (.ref c_State)
  k_State : PySem.W.keepIn K (.ref c_State) = true
  c_Desk : Addr
  g_Desk : mg "Desk" = some (.ref c_Desk)
  k_Desk : PySem.W.keepIn K (.ref c_Desk) = true
  c_Reader : Addr
  g_Reader : mg "Reader" = some (.ref c_Reader)
  k_Reader : PySem.W.keepIn K (.ref c_Reader) = true
  c_Writer : Addr
  g_Writer : mg "Writer" = some (.ref c_Writer)
  k_Writer : PySem.W.keepIn K (.ref c_Writer) = true
  c_Transaction : Addr
  g_Transaction : mg "Transaction" = some (.ref c_Transaction)
  k_Transaction : PySem.W.keepIn K (.ref c_Transaction) = true
  c_Book : Addr
  g_Book : mg "Book" = some (.ref c_Book)
  k_Book : PySem.W.keepIn K (.ref c_Book) = true
  oex_StampError : OexC K c_StampError
  excc_StampError : ExcC K c_StampError
  xfc_StampError : XfC K c_StampError
  exm_StampError_StampError : PySem.W.exmOne K (.ref c_StampError) (.ref c_StampError) = some true
  kit_StampError_StampError : PySem.W.kitOne K (.ref c_StampError) (.ref c_StampError) = some true
  exm_StampError_BadStamp : PySem.W.exmOne K (.ref c_StampError) (.ref c_BadStamp) = some false
  kit_StampError_BadStamp : PySem.W.kitOne K (.ref c_StampError) (.ref c_BadStamp) = some false
  exm_StampError_BadEntry : PySem.W.exmOne K (.ref c_StampError) (.ref c_BadEntry) = some false
  kit_StampError_BadEntry : PySem.W.kitOne K (.ref c_StampError) (.ref c_BadEntry) = some false
  exm_StampError_BadAnswer : PySem.W.exmOne K (.ref c_StampError) (.ref c_BadAnswer) = some false
  kit_StampError_BadAnswer : PySem.W.kitOne K (.ref c_StampError) (.ref c_BadAnswer) = some false
  exm_StampError_BadSetting : PySem.W.exmOne K (.ref c_StampError) (.ref c_BadSetting) = some false
  kit_StampError_BadSetting : PySem.W.kitOne K (.ref c_StampError) (.ref c_BadSetting) = some false
  exm_StampError_BadStep : PySem.W.exmOne K (.ref c_StampError) (.ref c_BadStep) = some false
  kit_StampError_BadStep : PySem.W.kitOne K (.ref c_StampError) (.ref c_BadStep) = some false
  exm_StampError_Finished : PySem.W.exmOne K (.ref c_StampError) (.ref c_Finished) = some false
  kit_StampError_Finished : PySem.W.kitOne K (.ref c_StampError) (.ref c_Finished) = some false
  exm_StampError_MustWait : PySem.W.exmOne K (.ref c_StampError) (.ref c_MustWait) = some false
  kit_StampError_MustWait : PySem.W.kitOne K (.ref c_StampError) (.ref c_MustWait) = some false
  exm_StampError_TooLate : PySem.W.exmOne K (.ref c_StampError) (.ref c_TooLate) = some false
  kit_StampError_TooLate : PySem.W.kitOne K (.ref c_StampError) (.ref c_TooLate) = some false
  exm_StampError_BrokenOff : PySem.W.exmOne K (.ref c_StampError) (.ref c_BrokenOff) = some false
  kit_StampError_BrokenOff : PySem.W.kitOne K (.ref c_StampError) (.ref c_BrokenOff) = some false
  kit_StampError_VE : PySem.W.kitOne K (.ref c_StampError) (.type "ValueError") = some true
  oex_BadStamp : OexC K c_BadStamp
  excc_BadStamp : ExcC K c_BadStamp
  xfc_BadStamp : XfC K c_BadStamp
  exm_BadStamp_StampError : PySem.W.exmOne K (.ref c_BadStamp) (.ref c_StampError) = some true
  kit_BadStamp_StampError : PySem.W.kitOne K (.ref c_BadStamp) (.ref c_StampError) = some true
  exm_BadStamp_BadStamp : PySem.W.exmOne K (.ref c_BadStamp) (.ref c_BadStamp) = some true
  kit_BadStamp_BadStamp : PySem.W.kitOne K (.ref c_BadStamp) (.ref c_BadStamp) = some true
  exm_BadStamp_BadEntry : PySem.W.exmOne K (.ref c_BadStamp) (.ref c_BadEntry) = some false
  kit_BadStamp_BadEntry : PySem.W.kitOne K (.ref c_BadStamp) (.ref c_BadEntry) = some false
  exm_BadStamp_BadAnswer : PySem.W.exmOne K (.ref c_BadStamp) (.ref c_BadAnswer) = some false
  kit_BadStamp_BadAnswer : PySem.W.kitOne K (.ref c_BadStamp) (.ref c_BadAnswer) = some false
  exm_BadStamp_BadSetting : PySem.W.exmOne K (.ref c_BadStamp) (.ref c_BadSetting) = some false
  kit_BadStamp_BadSetting : PySem.W.kitOne K (.ref c_BadStamp) (.ref c_BadSetting) = some false
  exm_BadStamp_BadStep : PySem.W.exmOne K (.ref c_BadStamp) (.ref c_BadStep) = some false
  kit_BadStamp_BadStep : PySem.W.kitOne K (.ref c_BadStamp) (.ref c_BadStep) = some false
  exm_BadStamp_Finished : PySem.W.exmOne K (.ref c_BadStamp) (.ref c_Finished) = some false
  kit_BadStamp_Finished : PySem.W.kitOne K (.ref c_BadStamp) (.ref c_Finished) = some false
  exm_BadStamp_MustWait : PySem.W.exmOne K (.ref c_BadStamp) (.ref c_MustWait) = some false
  kit_BadStamp_MustWait : PySem.W.kitOne K (.ref c_BadStamp) (.ref c_MustWait) = some false
  exm_BadStamp_TooLate : PySem.W.exmOne K (.ref c_BadStamp) (.ref c_TooLate) = some false
  kit_BadStamp_TooLate : PySem.W.kitOne K (.ref c_BadStamp) (.ref c_TooLate) = some false
  exm_BadStamp_BrokenOff : PySem.W.exmOne K (.ref c_BadStamp) (.ref c_BrokenOff) = some false
  kit_BadStamp_BrokenOff : PySem.W.kitOne K (.ref c_BadStamp) (.ref c_BrokenOff) = some false
  kit_BadStamp_VE : PySem.W.kitOne K (.ref c_BadStamp) (.type "ValueError") = some true
  na_BadStamp_given : NoAttr K c_BadStamp "given"
  oex_BadEntry : OexC K c_BadEntry
  excc_BadEntry : ExcC K c_BadEntry
  xfc_BadEntry : XfC K c_BadEntry
  exm_BadEntry_StampError : PySem.W.exmOne K (.ref c_BadEntry) (.ref c_StampError) = some true
  kit_BadEntry_StampError : PySem.W.kitOne K (.ref c_BadEntry) (.ref c_StampError) = some true
  exm_BadEntry_BadStamp : PySem.W.exmOne K (.ref c_BadEntry) (.ref c_BadStamp) = some false
  kit_BadEntry_BadStamp : PySem.W.kitOne K (.ref c_BadEntry) (.ref c_BadStamp) = some false
  exm_BadEntry_BadEntry : PySem.W.exmOne K (.ref c_BadEntry) (.ref c_BadEntry) = some true
  kit_BadEntry_BadEntry : PySem.W.kitOne K (.ref c_BadEntry) (.ref c_BadEntry) = some true
  exm_BadEntry_BadAnswer : PySem.W.exmOne K (.ref c_BadEntry) (.ref c_BadAnswer) = some false
  kit_BadEntry_BadAnswer : PySem.W.kitOne K (.ref c_BadEntry) (.ref c_BadAnswer) = some false
  exm_BadEntry_BadSetting : PySem.W.exmOne K (.ref c_BadEntry) (.ref c_BadSetting) = some false
  kit_BadEntry_BadSetting : PySem.W.kitOne K (.ref c_BadEntry) (.ref c_BadSetting) = some false
  exm_BadEntry_BadStep : PySem.W.exmOne K (.ref c_BadEntry) (.ref c_BadStep) = some false
  kit_BadEntry_BadStep : PySem.W.kitOne K (.ref c_BadEntry) (.ref c_BadStep) = some false
  exm_BadEntry_Finished : PySem.W.exmOne K (.ref c_BadEntry) (.ref c_Finished) = some false
  kit_BadEntry_Finished : PySem.W.kitOne K (.ref c_BadEntry) (.ref c_Finished) = some false
  exm_BadEntry_MustWait : PySem.W.exmOne K (.ref c_BadEntry) (.ref c_MustWait) = some false
  kit_BadEntry_MustWait : PySem.W.kitOne K (.ref c_BadEntry) (.ref c_MustWait) = some false
  exm_BadEntry_TooLate : PySem.W.exmOne K (.ref c_BadEntry) (.ref c_TooLate) = some false
  kit_BadEntry_TooLate : PySem.W.kitOne K (.ref c_BadEntry) (.ref c_TooLate) = some false
  exm_BadEntry_BrokenOff : PySem.W.exmOne K (.ref c_BadEntry) (.ref c_BrokenOff) = some false
  kit_BadEntry_BrokenOff : PySem.W.kitOne K (.ref c_BadEntry) (.ref c_BrokenOff) = some false
  kit_BadEntry_VE : PySem.W.kitOne K (.ref c_BadEntry) (.type "ValueError") = some true
  na_BadEntry_entry : NoAttr K c_BadEntry "entry"
  oex_BadAnswer : OexC K c_BadAnswer
  excc_BadAnswer : ExcC K c_BadAnswer
  xfc_BadAnswer : XfC K c_BadAnswer
  exm_BadAnswer_StampError : PySem.W.exmOne K (.ref c_BadAnswer) (.ref c_StampError) = some true
  kit_BadAnswer_StampError : PySem.W.kitOne K (.ref c_BadAnswer) (.ref c_StampError) = some true
  exm_BadAnswer_BadStamp : PySem.W.exmOne K (.ref c_BadAnswer) (.ref c_BadStamp) = some false
  kit_BadAnswer_BadStamp : PySem.W.kitOne K (.ref c_BadAnswer) (.ref c_BadStamp) = some false
  exm_BadAnswer_BadEntry : PySem.W.exmOne K (.ref c_BadAnswer) (.ref c_BadEntry) = some false
  kit_BadAnswer_BadEntry : PySem.W.kitOne K (.ref c_BadAnswer) (.ref c_BadEntry) = some false
  exm_BadAnswer_BadAnswer : PySem.W.exmOne K (.ref c_BadAnswer) (.ref c_BadAnswer) = some true
  kit_BadAnswer_BadAnswer : PySem.W.kitOne K (.ref c_BadAnswer) (.ref c_BadAnswer) = some true
  exm_BadAnswer_BadSetting : PySem.W.exmOne K (.ref c_BadAnswer) (.ref c_BadSetting) = some false
  kit_BadAnswer_BadSetting : PySem.W.kitOne K (.ref c_BadAnswer) (.ref c_BadSetting) = some false
  exm_BadAnswer_BadStep : PySem.W.exmOne K (.ref c_BadAnswer) (.ref c_BadStep) = some false
  kit_BadAnswer_BadStep : PySem.W.kitOne K (.ref c_BadAnswer) (.ref c_BadStep) = some false
  exm_BadAnswer_Finished : PySem.W.exmOne K (.ref c_BadAnswer) (.ref c_Finished) = some false
  kit_BadAnswer_Finished : PySem.W.kitOne K (.ref c_BadAnswer) (.ref c_Finished) = some false
  exm_BadAnswer_MustWait : PySem.W.exmOne K (.ref c_BadAnswer) (.ref c_MustWait) = some false
  kit_BadAnswer_MustWait : PySem.W.kitOne K (.ref c_BadAnswer) (.ref c_MustWait) = some false
  exm_BadAnswer_TooLate : PySem.W.exmOne K (.ref c_BadAnswer) (.ref c_TooLate) = some false
  kit_BadAnswer_TooLate : PySem.W.kitOne K (.ref c_BadAnswer) (.ref c_TooLate) = some false
  exm_BadAnswer_BrokenOff : PySem.W.exmOne K (.ref c_BadAnswer) (.ref c_BrokenOff) = some false
  kit_BadAnswer_BrokenOff : PySem.W.kitOne K (.ref c_BadAnswer) (.ref c_BrokenOff) = some false
  kit_BadAnswer_VE : PySem.W.kitOne K (.ref c_BadAnswer) (.type "ValueError") = some true
  na_BadAnswer_answer : NoAttr K c_BadAnswer "answer"
  na_BadAnswer_entry : NoAttr K c_BadAnswer "entry"
  oex_BadSetting : OexC K c_BadSetting
  excc_BadSetting : ExcC K c_BadSetting
  xfc_BadSetting : XfC K c_BadSetting
  exm_BadSetting_StampError : PySem.W.exmOne K (.ref c_BadSetting) (.ref c_StampError) = some true
  kit_BadSetting_StampError : PySem.W.kitOne K (.ref c_BadSetting) (.ref c_StampError) = some true
  exm_BadSetting_BadStamp : PySem.W.exmOne K (.ref c_BadSetting) (.ref c_BadStamp) = some false
  kit_BadSetting_BadStamp : PySem.W.kitOne K (.ref c_BadSetting) (.ref c_BadStamp) = some false
  exm_BadSetting_BadEntry : PySem.W.exmOne K (.ref c_BadSetting) (.ref c_BadEntry) = some false
  kit_BadSetting_BadEntry : PySem.W.kitOne K (.ref c_BadSetting) (.ref c_BadEntry) = some false
  exm_BadSetting_BadAnswer : PySem.W.exmOne K (.ref c_BadSetting) (.ref c_BadAnswer) = some false
  kit_BadSetting_BadAnswer : PySem.W.kitOne K (.ref c_BadSetting) (.ref c_BadAnswer) = some false
  exm_BadSetting_BadSetting : PySem.W.exmOne K (.ref c_BadSetting) (.ref c_BadSetting) = some true
  kit_BadSetting_BadSetting : PySem.W.kitOne K (.ref c_BadSetting) (.ref c_BadSetting) = some true
  exm_BadSetting_BadStep : PySem.W.exmOne K (.ref c_BadSetting) (.ref c_BadStep) = some false
  kit_BadSetting_BadStep : PySem.W.kitOne K (.ref c_BadSetting) (.ref c_BadStep) = some false
  exm_BadSetting_Finished : PySem.W.exmOne K (.ref c_BadSetting) (.ref c_Finished) = some false
  kit_BadSetting_Finished : PySem.W.kitOne K (.ref c_BadSetting) (.ref c_Finished) = some false
  exm_BadSetting_MustWait : PySem.W.exmOne K (.ref c_BadSetting) (.ref c_MustWait) = some false
  kit_BadSetting_MustWait : PySem.W.kitOne K (.ref c_BadSetting) (.ref c_MustWait) = some false
  exm_BadSetting_TooLate : PySem.W.exmOne K (.ref c_BadSetting) (.ref c_TooLate) = some false
  kit_BadSetting_TooLate : PySem.W.kitOne K (.ref c_BadSetting) (.ref c_TooLate) = some false
  exm_BadSetting_BrokenOff : PySem.W.exmOne K (.ref c_BadSetting) (.ref c_BrokenOff) = some false
  kit_BadSetting_BrokenOff : PySem.W.kitOne K (.ref c_BadSetting) (.ref c_BrokenOff) = some false
  kit_BadSetting_VE : PySem.W.kitOne K (.ref c_BadSetting) (.type "ValueError") = some true
  na_BadSetting_given : NoAttr K c_BadSetting "given"
  oex_BadStep : OexC K c_BadStep
  excc_BadStep : ExcC K c_BadStep
  xfc_BadStep : XfC K c_BadStep
  exm_BadStep_StampError : PySem.W.exmOne K (.ref c_BadStep) (.ref c_StampError) = some true
  kit_BadStep_StampError : PySem.W.kitOne K (.ref c_BadStep) (.ref c_StampError) = some true
  exm_BadStep_BadStamp : PySem.W.exmOne K (.ref c_BadStep) (.ref c_BadStamp) = some false
  kit_BadStep_BadStamp : PySem.W.kitOne K (.ref c_BadStep) (.ref c_BadStamp) = some false
  exm_BadStep_BadEntry : PySem.W.exmOne K (.ref c_BadStep) (.ref c_BadEntry) = some false
  kit_BadStep_BadEntry : PySem.W.kitOne K (.ref c_BadStep) (.ref c_BadEntry) = some false
  exm_BadStep_BadAnswer : PySem.W.exmOne K (.ref c_BadStep) (.ref c_BadAnswer) = some false
  kit_BadStep_BadAnswer : PySem.W.kitOne K (.ref c_BadStep) (.ref c_BadAnswer) = some false
  exm_BadStep_BadSetting : PySem.W.exmOne K (.ref c_BadStep) (.ref c_BadSetting) = some false
  kit_BadStep_BadSetting : PySem.W.kitOne K (.ref c_BadStep) (.ref c_BadSetting) = some false
  exm_BadStep_BadStep : PySem.W.exmOne K (.ref c_BadStep) (.ref c_BadStep) = some true
  kit_BadStep_BadStep : PySem.W.kitOne K (.ref c_BadStep) (.ref c_BadStep) = some true
  exm_BadStep_Finished : PySem.W.exmOne K (.ref c_BadStep) (.ref c_Finished) = some false
  kit_BadStep_Finished : PySem.W.kitOne K (.ref c_BadStep) (.ref c_Finished) = some false
  exm_BadStep_MustWait : PySem.W.exmOne K (.ref c_BadStep) (.ref c_MustWait) = some false
  kit_BadStep_MustWait : PySem.W.kitOne K (.ref c_BadStep) (.ref c_MustWait) = some false
  exm_BadStep_TooLate : PySem.W.exmOne K (.ref c_BadStep) (.ref c_TooLate) = some false
  kit_BadStep_TooLate : PySem.W.kitOne K (.ref c_BadStep) (.ref c_TooLate) = some false
  exm_BadStep_BrokenOff : PySem.W.exmOne K (.ref c_BadStep) (.ref c_BrokenOff) = some false
  kit_BadStep_BrokenOff : PySem.W.kitOne K (.ref c_BadStep) (.ref c_BrokenOff) = some false
  kit_BadStep_VE : PySem.W.kitOne K (.ref c_BadStep) (.type "ValueError") = some true
  na_BadStep_index : NoAttr K c_BadStep "index"
  oex_Finished : OexC K c_Finished
  excc_Finished : ExcC K c_Finished
  xfc_Finished : XfC K c_Finished
  exm_Finished_StampError : PySem.W.exmOne K (.ref c_Finished) (.ref c_StampError) = some true
  kit_Finished_StampError : PySem.W.kitOne K (.ref c_Finished) (.ref c_StampError) = some true
  exm_Finished_BadStamp : PySem.W.exmOne K (.ref c_Finished) (.ref c_BadStamp) = some false
  kit_Finished_BadStamp : PySem.W.kitOne K (.ref c_Finished) (.ref c_BadStamp) = some false
  exm_Finished_BadEntry : PySem.W.exmOne K (.ref c_Finished) (.ref c_BadEntry) = some false
  kit_Finished_BadEntry : PySem.W.kitOne K (.ref c_Finished) (.ref c_BadEntry) = some false
  exm_Finished_BadAnswer : PySem.W.exmOne K (.ref c_Finished) (.ref c_BadAnswer) = some false
  kit_Finished_BadAnswer : PySem.W.kitOne K (.ref c_Finished) (.ref c_BadAnswer) = some false
  exm_Finished_BadSetting : PySem.W.exmOne K (.ref c_Finished) (.ref c_BadSetting) = some false
  kit_Finished_BadSetting : PySem.W.kitOne K (.ref c_Finished) (.ref c_BadSetting) = some false
  exm_Finished_BadStep : PySem.W.exmOne K (.ref c_Finished) (.ref c_BadStep) = some false
  kit_Finished_BadStep : PySem.W.kitOne K (.ref c_Finished) (.ref c_BadStep) = some false
  exm_Finished_Finished : PySem.W.exmOne K (.ref c_Finished) (.ref c_Finished) = some true
  kit_Finished_Finished : PySem.W.kitOne K (.ref c_Finished) (.ref c_Finished) = some true
  exm_Finished_MustWait : PySem.W.exmOne K (.ref c_Finished) (.ref c_MustWait) = some false
  kit_Finished_MustWait : PySem.W.kitOne K (.ref c_Finished) (.ref c_MustWait) = some false
  exm_Finished_TooLate : PySem.W.exmOne K (.ref c_Finished) (.ref c_TooLate) = some false
  kit_Finished_TooLate : PySem.W.kitOne K (.ref c_Finished) (.ref c_TooLate) = some false
  exm_Finished_BrokenOff : PySem.W.exmOne K (.ref c_Finished) (.ref c_BrokenOff) = some false
  kit_Finished_BrokenOff : PySem.W.kitOne K (.ref c_Finished) (.ref c_BrokenOff) = some false
  kit_Finished_VE : PySem.W.kitOne K (.ref c_Finished) (.type "ValueError") = some true
  na_Finished_stamp : NoAttr K c_Finished "stamp"
  oex_MustWait : OexC K c_MustWait
  excc_MustWait : ExcC K c_MustWait
  xfc_MustWait : XfC K c_MustWait
  exm_MustWait_StampError : PySem.W.exmOne K (.ref c_MustWait) (.ref c_StampError) = some true
  kit_MustWait_StampError : PySem.W.kitOne K (.ref c_MustWait) (.ref c_StampError) = some true
  exm_MustWait_BadStamp : PySem.W.exmOne K (.ref c_MustWait) (.ref c_BadStamp) = some false
  kit_MustWait_BadStamp : PySem.W.kitOne K (.ref c_MustWait) (.ref c_BadStamp) = some false
  exm_MustWait_BadEntry : PySem.W.exmOne K (.ref c_MustWait) (.ref c_BadEntry) = some false
  kit_MustWait_BadEntry : PySem.W.kitOne K (.ref c_MustWait) (.ref c_BadEntry) = some false
  exm_MustWait_BadAnswer : PySem.W.exmOne K (.ref c_MustWait) (.ref c_BadAnswer) = some false
  kit_MustWait_BadAnswer : PySem.W.kitOne K (.ref c_MustWait) (.ref c_BadAnswer) = some false
  exm_MustWait_BadSetting : PySem.W.exmOne K (.ref c_MustWait) (.ref c_BadSetting) = some false
  kit_MustWait_BadSetting : PySem.W.kitOne K (.ref c_MustWait) (.ref c_BadSetting) = some false
  exm_MustWait_BadStep : PySem.W.exmOne K (.ref c_MustWait) (.ref c_BadStep) = some false
  kit_MustWait_BadStep : PySem.W.kitOne K (.ref c_MustWait) (.ref c_BadStep) = some false
  exm_MustWait_Finished : PySem.W.exmOne K (.ref c_MustWait) (.ref c_Finished) = some false
  kit_MustWait_Finished : PySem.W.kitOne K (.ref c_MustWait) (.ref c_Finished) = some false
  exm_MustWait_MustWait : PySem.W.exmOne K (.ref c_MustWait) (.ref c_MustWait) = some true
  kit_MustWait_MustWait : PySem.W.kitOne K (.ref c_MustWait) (.ref c_MustWait) = some true
  exm_MustWait_TooLate : PySem.W.exmOne K (.ref c_MustWait) (.ref c_TooLate) = some false
  kit_MustWait_TooLate : PySem.W.kitOne K (.ref c_MustWait) (.ref c_TooLate) = some false
  exm_MustWait_BrokenOff : PySem.W.exmOne K (.ref c_MustWait) (.ref c_BrokenOff) = some false
  kit_MustWait_BrokenOff : PySem.W.kitOne K (.ref c_MustWait) (.ref c_BrokenOff) = some false
  kit_MustWait_VE : PySem.W.kitOne K (.ref c_MustWait) (.type "ValueError") = some true
  na_MustWait_holders : NoAttr K c_MustWait "holders"
  na_MustWait_stamp : NoAttr K c_MustWait "stamp"
  oex_TooLate : OexC K c_TooLate
  excc_TooLate : ExcC K c_TooLate
  xfc_TooLate : XfC K c_TooLate
  exm_TooLate_StampError : PySem.W.exmOne K (.ref c_TooLate) (.ref c_StampError) = some true
  kit_TooLate_StampError : PySem.W.kitOne K (.ref c_TooLate) (.ref c_StampError) = some true
  exm_TooLate_BadStamp : PySem.W.exmOne K (.ref c_TooLate) (.ref c_BadStamp) = some false
  kit_TooLate_BadStamp : PySem.W.kitOne K (.ref c_TooLate) (.ref c_BadStamp) = some false
  exm_TooLate_BadEntry : PySem.W.exmOne K (.ref c_TooLate) (.ref c_BadEntry) = some false
  kit_TooLate_BadEntry : PySem.W.kitOne K (.ref c_TooLate) (.ref c_BadEntry) = some false
  exm_TooLate_BadAnswer : PySem.W.exmOne K (.ref c_TooLate) (.ref c_BadAnswer) = some false
  kit_TooLate_BadAnswer : PySem.W.kitOne K (.ref c_TooLate) (.ref c_BadAnswer) = some false
  exm_TooLate_BadSetting : PySem.W.exmOne K (.ref c_TooLate) (.ref c_BadSetting) = some false
  kit_TooLate_BadSetting : PySem.W.kitOne K (.ref c_TooLate) (.ref c_BadSetting) = some false
  exm_TooLate_BadStep : PySem.W.exmOne K (.ref c_TooLate) (.ref c_BadStep) = some false
  kit_TooLate_BadStep : PySem.W.kitOne K (.ref c_TooLate) (.ref c_BadStep) = some false
  exm_TooLate_Finished : PySem.W.exmOne K (.ref c_TooLate) (.ref c_Finished) = some false
  kit_TooLate_Finished : PySem.W.kitOne K (.ref c_TooLate) (.ref c_Finished) = some false
  exm_TooLate_MustWait : PySem.W.exmOne K (.ref c_TooLate) (.ref c_MustWait) = some false
  kit_TooLate_MustWait : PySem.W.kitOne K (.ref c_TooLate) (.ref c_MustWait) = some false
  exm_TooLate_TooLate : PySem.W.exmOne K (.ref c_TooLate) (.ref c_TooLate) = some true
  kit_TooLate_TooLate : PySem.W.kitOne K (.ref c_TooLate) (.ref c_TooLate) = some true
  exm_TooLate_BrokenOff : PySem.W.exmOne K (.ref c_TooLate) (.ref c_BrokenOff) = some false
  kit_TooLate_BrokenOff : PySem.W.kitOne K (.ref c_TooLate) (.ref c_BrokenOff) = some false
  kit_TooLate_VE : PySem.W.kitOne K (.ref c_TooLate) (.type "ValueError") = some true
  na_TooLate_entry : NoAttr K c_TooLate "entry"
  oex_BrokenOff : OexC K c_BrokenOff
  excc_BrokenOff : ExcC K c_BrokenOff
  xfc_BrokenOff : XfC K c_BrokenOff
  exm_BrokenOff_StampError : PySem.W.exmOne K (.ref c_BrokenOff) (.ref c_StampError) = some true
  kit_BrokenOff_StampError : PySem.W.kitOne K (.ref c_BrokenOff) (.ref c_StampError) = some true
  exm_BrokenOff_BadStamp : PySem.W.exmOne K (.ref c_BrokenOff) (.ref c_BadStamp) = some false
  kit_BrokenOff_BadStamp : PySem.W.kitOne K (.ref c_BrokenOff) (.ref c_BadStamp) = some false
  exm_BrokenOff_BadEntry : PySem.W.exmOne K (.ref c_BrokenOff) (.ref c_BadEntry) = some false
  kit_BrokenOff_BadEntry : PySem.W.kitOne K (.ref c_BrokenOff) (.ref c_BadEntry) = some false
  exm_BrokenOff_BadAnswer : PySem.W.exmOne K (.ref c_BrokenOff) (.ref c_BadAnswer) = some false
  kit_BrokenOff_BadAnswer : PySem.W.kitOne K (.ref c_BrokenOff) (.ref c_BadAnswer) = some false
  exm_BrokenOff_BadSetting : PySem.W.exmOne K (.ref c_BrokenOff) (.ref c_BadSetting) = some false
  kit_BrokenOff_BadSetting : PySem.W.kitOne K (.ref c_BrokenOff) (.ref c_BadSetting) = some false
  exm_BrokenOff_BadStep : PySem.W.exmOne K (.ref c_BrokenOff) (.ref c_BadStep) = some false
  kit_BrokenOff_BadStep : PySem.W.kitOne K (.ref c_BrokenOff) (.ref c_BadStep) = some false
  exm_BrokenOff_Finished : PySem.W.exmOne K (.ref c_BrokenOff) (.ref c_Finished) = some false
  kit_BrokenOff_Finished : PySem.W.kitOne K (.ref c_BrokenOff) (.ref c_Finished) = some false
  exm_BrokenOff_MustWait : PySem.W.exmOne K (.ref c_BrokenOff) (.ref c_MustWait) = some false
  kit_BrokenOff_MustWait : PySem.W.kitOne K (.ref c_BrokenOff) (.ref c_MustWait) = some false
  exm_BrokenOff_TooLate : PySem.W.exmOne K (.ref c_BrokenOff) (.ref c_TooLate) = some false
  kit_BrokenOff_TooLate : PySem.W.kitOne K (.ref c_BrokenOff) (.ref c_TooLate) = some false
  exm_BrokenOff_BrokenOff : PySem.W.exmOne K (.ref c_BrokenOff) (.ref c_BrokenOff) = some true
  kit_BrokenOff_BrokenOff : PySem.W.kitOne K (.ref c_BrokenOff) (.ref c_BrokenOff) = some true
  kit_BrokenOff_VE : PySem.W.kitOne K (.ref c_BrokenOff) (.type "ValueError") = some true
  na_BrokenOff_stamp : NoAttr K c_BrokenOff "stamp"
  cl_Stamp : Cls K c_Stamp
  isi_Stamp : IsI K c_Stamp
  kit_Stamp : PySem.W.kitOne K (.ref c_Stamp) (.ref c_Stamp) = some true
  na_Stamp_number : NoAttr K c_Stamp "number"
  cl_Item : Cls K c_Item
  isi_Item : IsI K c_Item
  kit_Item : PySem.W.kitOne K (.ref c_Item) (.ref c_Item) = some true
  na_Item_holder : NoAttr K c_Item "holder"
  na_Item_kept : NoAttr K c_Item "kept"
  na_Item_reader : NoAttr K c_Item "reader"
  na_Item_value : NoAttr K c_Item "value"
  cl_State : Cls K c_State
  isi_State : IsI K c_State
  kit_State : PySem.W.kitOne K (.ref c_State) (.ref c_State) = some true
  na_State_bonds : NoAttr K c_State "bonds"
  na_State_over : NoAttr K c_State "over"
  na_State_store : NoAttr K c_State "store"
  cl_Desk : Cls K c_Desk
  isi_Desk : IsI K c_Desk
  kit_Desk : PySem.W.kitOne K (.ref c_Desk) (.ref c_Desk) = some true
  na_Desk_begun : NoAttr K c_Desk "begun"
  na_Desk_book : NoAttr K c_Desk "book"
  na_Desk_greatest : NoAttr K c_Desk "greatest"
  na_Desk_left : NoAttr K c_Desk "left"
  na_Desk_state : NoAttr K c_Desk "state"
  cl_Reader : Cls K c_Reader
  isi_Reader : IsI K c_Reader
  kit_Reader : PySem.W.kitOne K (.ref c_Reader) (.ref c_Reader) = some true
  cl_Writer : Cls K c_Writer
  isi_Writer : IsI K c_Writer
  kit_Writer : PySem.W.kitOne K (.ref c_Writer) (.ref c_Writer) = some true
  cl_Transaction : Cls K c_Transaction
  isi_Transaction : IsI K c_Transaction
  kit_Transaction : PySem.W.kitOne K (.ref c_Transaction) (.ref c_Transaction) = some true
  kit_Transaction_Reader : PySem.W.kitOne K (.ref c_Transaction) (.ref c_Reader) = some true
  kit_Transaction_Writer : PySem.W.kitOne K (.ref c_Transaction) (.ref c_Writer) = some true
  na_Transaction_desk : NoAttr K c_Transaction "desk"
  na_Transaction_left : NoAttr K c_Transaction "left"
  na_Transaction_number : NoAttr K c_Transaction "number"
  na_Transaction_stamp : NoAttr K c_Transaction "stamp"
  cl_Book : Cls K c_Book
  isi_Book : IsI K c_Book
  kit_Book : PySem.W.kitOne K (.ref c_Book) (.ref c_Book) = some true
  na_Book__answers : NoAttr K c_Book "_answers"
  na_Book__ends : NoAttr K c_Book "_ends"
  na_Book__keep : NoAttr K c_Book "_keep"
  f_BadStamp_init : Addr
  d_BadStamp_init : FuncData
  cc_BadStamp_init : Addr
  cdr_BadStamp_init : Addr
  S_BadStamp_init : SI.SupT PySem.Challenge.rw_stamprules_k16_a_desk_follows_the_run.prog K mg c_BadStamp f_BadStamp_init cdr_BadStamp_init cc_BadStamp_init ⟨"__init__", "BadStamp.__init__", defArgs s_BadStamp_init, defBody s_BadStamp_init, defScope s_BadStamp_init, [(("__class__" : Str), cc_BadStamp_init)], cdr_BadStamp_init⟩ d_BadStamp_init
  i_BadStamp_init : PySem.W.findIn K (.ref c_BadStamp) "__init__" = some (some (.ref f_BadStamp_init))
  t_BadStamp_init : PySem.W.typeIn K (.ref f_BadStamp_init) = some (.type "function")
  f_BadEntry_init : Addr
  d_BadEntry_init : FuncData
  cc_BadEntry_init : Addr
  cdr_BadEntry_init : Addr
  S_BadEntry_init : SI.SupT PySem.Challenge.rw_stamprules_k16_a_desk_follows_the_run.prog K mg c_BadEntry f_BadEntry_init cdr_BadEntry_init cc_BadEntry_init ⟨"__init__", "BadEntry.__init__", defArgs s_BadEntry_init, defBody s_BadEntry_init, defScope s_BadEntry_init, [(("__class__" : Str), cc_BadEntry_init)], cdr_BadEntry_init⟩ d_BadEntry_init
  i_BadEntry_init : PySem.W.findIn K (.ref c_BadEntry) "__init__" = some (some (.ref f_BadEntry_init))
  t_BadEntry_init : PySem.W.typeIn K (.ref f_BadEntry_init) = some (.type "function")
  f_BadAnswer_init : Addr
  d_BadAnswer_init : FuncData
  cc_BadAnswer_init : Addr
  cdr_BadAnswer_init : Addr
  S_BadAnswer_init : SI.SupT PySem.Challenge.rw_stamprules_k16_a_desk_follows_the_run.prog K mg c_BadAnswer f_BadAnswer_init cdr_BadAnswer_init cc_BadAnswer_init ⟨"__init__", "BadAnswer.__init__", defArgs s_BadAnswer_init, defBody s_BadAnswer_init, defScope s_BadAnswer_init, [(("__class__" : Str), cc_BadAnswer_init)], cdr_BadAnswer_init⟩ d_BadAnswer_init
  i_BadAnswer_init : PySem.W.findIn K (.ref c_BadAnswer) "__init__" = some (some (.ref f_BadAnswer_init))
  t_BadAnswer_init : PySem.W.typeIn K (.ref f_BadAnswer_init) = some (.type "function")
  f_BadSetting_init : Addr
  d_BadSetting_init : FuncData
  cc_BadSetting_init : Addr
  cdr_BadSetting_init : Addr
  S_BadSetting_init : SI.SupT PySem.Challenge.rw_stamprules_k16_a_desk_follows_the_run.prog K mg c_BadSetting f_BadSetting_init cdr_BadSetting_init cc_BadSetting_init ⟨"__init__", "BadSetting.__init__", defArgs s_BadSetting_init, defBody s_BadSetting_init, defScope s_BadSetting_init, [(("__class__" : Str), cc_BadSetting_init)], cdr_BadSetting_init⟩ d_BadSetting_init
  i_BadSetting_init : PySem.W.findIn K (.ref c_BadSetting) "__init__" = some (some (.ref f_BadSetting_init))
  t_BadSetting_init : PySem.W.typeIn K (.ref f_BadSetting_init) = some (.type "function")
  f_BadStep_init : Addr
  d_BadStep_init : FuncData
  cc_BadStep_init : Addr
  cdr_BadStep_init : Addr
  S_BadStep_init : SI.SupT PySem.Challenge.rw_stamprules_k16_a_desk_follows_the_run.prog K mg c_BadStep f_BadStep_init cdr_BadStep_init cc_BadStep_init ⟨"__init__", "BadStep.__init__", defArgs s_BadStep_init, defBody s_BadStep_init, defScope s_BadStep_init, [(("__class__" : Str), cc_BadStep_init)], cdr_BadStep_init⟩ d_BadStep_init
  i_BadStep_init : PySem.W.findIn K (.ref c_BadStep) "__init__" = some (some (.ref f_BadStep_init))
  t_BadStep_init : PySem.W.typeIn K (.ref f_BadStep_init) = some (.type "function")
  f_Finished_init : Addr
  d_Finished_init : FuncData
  cc_Finished_init : Addr
  cdr_Finished_init : Addr
  S_Finished_init : SI.SupT PySem.Challenge.rw_stamprules_k16_a_desk_follows_the_run.prog K mg c_Finished f_Finished_init cdr_Finished_init cc_Finished_init ⟨"__init__", "Finished.__init__", defArgs s_Finished_init, defBody s_Finished_init, defScope s_Finished_init, [(("__class__" : Str), cc_Finished_init)], cdr_Finished_init⟩ d_Finished_init
  i_Finished_init : PySem.W.findIn K (.ref c_Finished) "__init__" = some (some (.ref f_Finished_init))
  t_Finished_init : PySem.W.typeIn K (.ref f_Finished_init) = some (.type "function")
  f_MustWait_init : Addr
  d_MustWait_init : FuncData
  cc_MustWait_init : Addr
  cdr_MustWait_init : Addr
  S_MustWait_init : SI.SupT PySem.Challenge.rw_stamprules_k16_a_desk_follows_the_run.prog K mg c_MustWait f_MustWait_init cdr_MustWait_init cc_MustWait_init ⟨"__init__", "MustWait.__init__", defArgs s_MustWait_init, defBody s_MustWait_init, defScope s_MustWait_init, [(("__class__" : Str), cc_MustWait_init)], cdr_MustWait_init⟩ d_MustWait_init
  i_MustWait_init : PySem.W.findIn K (.ref c_MustWait) "__init__" = some (some (.ref f_MustWait_init))
  t_MustWait_init : PySem.W.typeIn K (.ref f_MustWait_init) = some (.type "function")
  f_TooLate_init : Addr
  d_TooLate_init : FuncData
  cc_TooLate_init : Addr
  cdr_TooLate_init : Addr
  S_TooLate_init : SI.SupT PySem.Challenge.rw_stamprules_k16_a_desk_follows_the_run.prog K mg c_TooLate f_TooLate_init cdr_TooLate_init cc_TooLate_init ⟨"__init__", "TooLate.__init__", defArgs s_TooLate_init, defBody s_TooLate_init, defScope s_TooLate_init, [(("__class__" : Str), cc_TooLate_init)], cdr_TooLate_init⟩ d_TooLate_init
  i_TooLate_init : PySem.W.findIn K (.ref c_TooLate) "__init__" = some (some (.ref f_TooLate_init))
  t_TooLate_init : PySem.W.typeIn K (.ref f_TooLate_init) = some (.type "function")
  f_BrokenOff_init : Addr
  d_BrokenOff_init : FuncData
  cc_BrokenOff_init : Addr
  cdr_BrokenOff_init : Addr
  S_BrokenOff_init : SI.SupT PySem.Challenge.rw_stamprules_k16_a_desk_follows_the_run.prog K mg c_BrokenOff f_BrokenOff_init cdr_BrokenOff_init cc_BrokenOff_init ⟨"__init__", "BrokenOff.__init__", defArgs s_BrokenOff_init, defBody s_BrokenOff_init, defScope s_BrokenOff_init, [(("__class__" : Str), cc_BrokenOff_init)], cdr_BrokenOff_init⟩ d_BrokenOff_init
  i_BrokenOff_init : PySem.W.findIn K (.ref c_BrokenOff) "__init__" = some (some (.ref f_BrokenOff_init))
  t_BrokenOff_init : PySem.W.typeIn K (.ref f_BrokenOff_init) = some (.type "function")
  f_Stamp_init : Addr
  d_Stamp_init : FuncData
  F_Stamp_init : Fun K "__init__" "Stamp.__init__" s_Stamp_init f_Stamp_init d_Stamp_init
  m_Stamp_init : Meth K c_Stamp "__init__" f_Stamp_init
  mk_Stamp : Mk K c_Stamp f_Stamp_init
  f_Stamp_lt : Addr
  d_Stamp_lt : FuncData
  F_Stamp_lt : Fun K "__lt__" "Stamp.__lt__" s_Stamp_lt f_Stamp_lt d_Stamp_lt
  m_Stamp_lt : Meth K c_Stamp "__lt__" f_Stamp_lt
  f_Item_init : Addr
  d_Item_init : FuncData
  F_Item_init : Fun K "__init__" "Item.__init__" s_Item_init f_Item_init d_Item_init
  m_Item_init : Meth K c_Item "__init__" f_Item_init
  mk_Item : Mk K c_Item f_Item_init
  f_State_init : Addr
  d_State_init : FuncData
  F_State_init : Fun K "__init__" "State.__init__" s_State_init f_State_init d_State_init
  m_State_init : Meth K c_State "__init__" f_State_init
  mk_State : Mk K c_State f_State_init
  f_Desk_init : Addr
  d_Desk_init : FuncData
  F_Desk_init : Fun K "__init__" "Desk.__init__" s_Desk_init f_Desk_init d_Desk_init
  m_Desk_init : Meth K c_Desk "__init__" f_Desk_init
  mk_Desk : Mk K c_Desk f_Desk_init
  f_Desk_begin : Addr
  d_Desk_begin : FuncData
  F_Desk_begin : FunD K "begin" "Desk.begin" (defArgs s_Desk_begin) (defBody s_Desk_begin) (defScope s_Desk_begin) [] [("stamp", .non)] f_Desk_begin d_Desk_begin
  m_Desk_begin : Meth K c_Desk "begin" f_Desk_begin
  f_Desk_state_of : Addr
  d_Desk_state_of : FuncData
  F_Desk_state_of : Fun K "state_of" "Desk.state_of" s_Desk_state_of f_Desk_state_of d_Desk_state_of
  m_Desk_state_of : Meth K c_Desk "state_of" f_Desk_state_of
  f_Desk_settle : Addr
  d_Desk_settle : FuncData
  F_Desk_settle : Fun K "settle" "Desk.settle" s_Desk_settle f_Desk_settle d_Desk_settle
  m_Desk_settle : Meth K c_Desk "settle" f_Desk_settle
  f_Desk_take : Addr
  d_Desk_take : FuncData
  F_Desk_take : Fun K "take" "Desk.take" s_Desk_take f_Desk_take d_Desk_take
  m_Desk_take : Meth K c_Desk "take" f_Desk_take
  f_Desk_ask : Addr
  d_Desk_ask : FuncData
  F_Desk_ask : Fun K "ask" "Desk.ask" s_Desk_ask f_Desk_ask d_Desk_ask
  m_Desk_ask : Meth K c_Desk "ask" f_Desk_ask
  f_Reader_read : Addr
  d_Reader_read : FuncData
  F_Reader_read : Fun K "read" "Reader.read" s_Reader_read f_Reader_read d_Reader_read
  m_Reader_read : Meth K c_Reader "read" f_Reader_read
  mi_Transaction_read : Meth K c_Transaction "read" f_Reader_read
  f_Writer_write : Addr
  d_Writer_write : FuncData
  F_Writer_write : Fun K "write" "Writer.write" s_Writer_write f_Writer_write d_Writer_write
  m_Writer_write : Meth K c_Writer "write" f_Writer_write
  mi_Transaction_write : Meth K c_Transaction "write" f_Writer_write
  f_Transaction_init : Addr
  d_Transaction_init : FuncData
  F_Transaction_init : Fun K "__init__" "Transaction.__init__" s_Transaction_init f_Transaction_init d_Transaction_init
  m_Transaction_init : Meth K c_Transaction "__init__" f_Transaction_init
  mk_Transaction : Mk K c_Transaction f_Transaction_init
  f_Transaction_commit : Addr
  d_Transaction_commit : FuncData
  F_Transaction_commit : Fun K "commit" "Transaction.commit" s_Transaction_commit f_Transaction_commit d_Transaction_commit
  m_Transaction_commit : Meth K c_Transaction "commit" f_Transaction_commit
  f_Transaction_abort : Addr
  d_Transaction_abort : FuncData
  F_Transaction_abort : Fun K "abort" "Transaction.abort" s_Transaction_abort f_Transaction_abort d_Transaction_abort
  m_Transaction_abort : Meth K c_Transaction "abort" f_Transaction_abort
  f_Book_init : Addr
  d_Book_init : FuncData
  F_Book_init : FunD K "__init__" "Book.__init__" (defArgs s_Book_init) (defBody s_Book_init) (defScope s_Book_init) [.non] [("ends", .str "now"), ("keep", .int 1)] f_Book_init d_Book_init
  m_Book_init : Meth K c_Book "__init__" f_Book_init
  mk_Book : Mk K c_Book f_Book_init
  f_Book_ends : Addr
  d_Book_ends : FuncData
  pr_Book_ends : Addr
  p_Book_ends : PropOf K c_Book "ends" pr_Book_ends f_Book_ends
  F_Book_ends : Fun K "ends" "Book.ends" s_Book_ends f_Book_ends d_Book_ends
  f_Book_keep : Addr
  d_Book_keep : FuncData
  pr_Book_keep : Addr
  p_Book_keep : PropOf K c_Book "keep" pr_Book_keep f_Book_keep
  F_Book_keep : Fun K "keep" "Book.keep" s_Book_keep f_Book_keep d_Book_keep
  f_Book_copy : Addr
  d_Book_copy : FuncData
  F_Book_copy : Fun K "copy" "Book.copy" s_Book_copy f_Book_copy d_Book_copy
  m_Book_copy : Meth K c_Book "copy" f_Book_copy
  f_Book_getitem : Addr
  d_Book_getitem : FuncData
  F_Book_getitem : Fun K "__getitem__" "Book.__getitem__" s_Book_getitem f_Book_getitem d_Book_getitem
  m_Book_getitem : Meth K c_Book "__getitem__" f_Book_getitem
  nd_Book : PySem.W.mroIn K c_Book (.type "collections.deque") = some false
  fi_Book_getitem : PySem.W.fnIn K f_Book_getitem = true
  f_is_stamp : Addr
  d_is_stamp : FuncData
  F_is_stamp : FunD K "is_stamp" "is_stamp" (defArgs s_is_stamp) (defBody s_is_stamp) (defScope s_is_stamp) [.int 0] [] f_is_stamp d_is_stamp
  g_is_stamp : mg "is_stamp" = some (.ref f_is_stamp)
  f_place : Addr
  d_place : FuncData
  F_place : Fun K "place" "place" s_place f_place d_place
  g_place : mg "place" = some (.ref f_place)
  f_first_state : Addr
  d_first_state : FuncData
  F_first_state : Fun K "first_state" "first_state" s_first_state f_first_state d_first_state
  g_first_state : mg "first_state" = some (.ref f_first_state)
  f_item_of : Addr
  d_item_of : FuncData
  F_item_of : Fun K "item_of" "item_of" s_item_of f_item_of d_item_of
  g_item_of : mg "item_of" = some (.ref f_item_of)
  f_ascending : Addr
  d_ascending : FuncData
  F_ascending : Fun K "ascending" "ascending" s_ascending f_ascending d_ascending
  g_ascending : mg "ascending" = some (.ref f_ascending)
  f_taken : Addr
  d_taken : FuncData
  F_taken : Fun K "taken" "taken" s_taken f_taken d_taken
  g_taken : mg "taken" = some (.ref f_taken)
  f_committed : Addr
  d_committed : FuncData
  F_committed : Fun K "committed" "committed" s_committed f_committed d_committed
  g_committed : mg "committed" = some (.ref f_committed)
  f_settled : Addr
  d_settled : FuncData
  F_settled : Fun K "settled" "settled" s_settled f_settled d_settled
  g_settled : mg "settled" = some (.ref f_settled)
  f_aborted : Addr
  d_aborted : FuncData
  F_aborted : Fun K "aborted" "aborted" s_aborted f_aborted d_aborted
  g_aborted : mg "aborted" = some (.ref f_aborted)
  f_without : Addr
  d_without : FuncData
  F_without : Fun K "without" "without" s_without f_without d_without
  g_without : mg "without" = some (.ref f_without)
  f_falling : Addr
  d_falling : FuncData
  F_falling : Fun K "falling" "falling" s_falling f_falling d_falling
  g_falling : mg "falling" = some (.ref f_falling)
  f_released : Addr
  d_released : FuncData
  F_released : Fun K "released" "released" s_released f_released d_released
  g_released : mg "released" = some (.ref f_released)
  f_requested : Addr
  d_requested : FuncData
  F_requested : Fun K "requested" "requested" s_requested f_requested d_requested
  g_requested : mg "requested" = some (.ref f_requested)
  f_asked : Addr
  d_asked : FuncData
  F_asked : Fun K "asked" "asked" s_asked f_asked d_asked
  g_asked : mg "asked" = some (.ref f_asked)
  f_entry_met : Addr
  d_entry_met : FuncData
  F_entry_met : Fun K "entry_met" "entry_met" s_entry_met f_entry_met d_entry_met
  g_entry_met : mg "entry_met" = some (.ref f_entry_met)
  f_fixed_answer : Addr
  d_fixed_answer : FuncData
  F_fixed_answer : Fun K "fixed_answer" "fixed_answer" s_fixed_answer f_fixed_answer d_fixed_answer
  g_fixed_answer : mg "fixed_answer" = some (.ref f_fixed_answer)
  f_older_values : Addr
  d_older_values : FuncData
  F_older_values : Fun K "older_values" "older_values" s_older_values f_older_values d_older_values
  g_older_values : mg "older_values" = some (.ref f_older_values)
  f_value_read : Addr
  d_value_read : FuncData
  F_value_read : Fun K "value_read" "value_read" s_value_read f_value_read d_value_read
  g_value_read : mg "value_read" = some (.ref f_value_read)
  f_binds : Addr
  d_binds : FuncData
  F_binds : Fun K "binds" "binds" s_binds f_binds d_binds
  g_binds : mg "binds" = some (.ref f_binds)
  f_with_bond : Addr
  d_with_bond : FuncData
  F_with_bond : Fun K "with_bond" "with_bond" s_with_bond f_with_bond d_with_bond
  g_with_bond : mg "with_bond" = some (.ref f_with_bond)
  f_with_reader : Addr
  d_with_reader : FuncData
  F_with_reader : Fun K "with_reader" "with_reader" s_with_reader f_with_reader d_with_reader
  g_with_reader : mg "with_reader" = some (.ref f_with_reader)
  f_with_item : Addr
  d_with_item : FuncData
  F_with_item : Fun K "with_item" "with_item" s_with_item f_with_item d_with_item
  g_with_item : mg "with_item" = some (.ref f_with_item)
  f_play : Addr
  d_play : FuncData
  F_play : Fun K "play" "play" s_play f_play d_play
  g_play : mg "play" = some (.ref f_play)
  f_traced : Addr
  d_traced : FuncData
  F_traced : Fun K "traced" "traced" s_traced f_traced d_traced
  g_traced : mg "traced" = some (.ref f_traced)
  f_check_run : Addr
  d_check_run : FuncData
  F_check_run : Fun K "check_run" "check_run" s_check_run f_check_run d_check_run
  g_check_run : mg "check_run" = some (.ref f_check_run)
  f_is_step : Addr
  d_is_step : FuncData
  F_is_step : Fun K "is_step" "is_step" s_is_step f_is_step d_is_step
  g_is_step : mg "is_step" = some (.ref f_is_step)
  f_is_name : Addr
  d_is_name : FuncData
  F_is_name : Fun K "is_name" "is_name" s_is_name f_is_name d_is_name
  g_is_name : mg "is_name" = some (.ref f_is_name)
  f_answers_at : Addr
  d_answers_at : FuncData
  F_answers_at : Fun K "answers_at" "answers_at" s_answers_at f_answers_at d_answers_at
  g_answers_at : mg "answers_at" = some (.ref f_answers_at)
  f_check_answer : Addr
  d_check_answer : FuncData
  F_check_answer : Fun K "check_answer" "check_answer" s_check_answer f_check_answer d_check_answer
  g_check_answer : mg "check_answer" = some (.ref f_check_answer)
  f_is_keep : Addr
  d_is_keep : FuncData
  F_is_keep : Fun K "is_keep" "is_keep" s_is_keep f_is_keep d_is_keep
  g_is_keep : mg "is_keep" = some (.ref f_is_keep)
  f_law_cell : Addr
  d_law_cell : FuncData
  F_law_cell : Fun K "_law_cell" "_law_cell" s_law_cell f_law_cell d_law_cell
  g_law_cell : mg "_law_cell" = some (.ref f_law_cell)
  f_law_row : Addr
  d_law_row : FuncData
  F_law_row : Fun K "_law_row" "_law_row" s_law_row f_law_row d_law_row
  g_law_row : mg "_law_row" = some (.ref f_law_row)
  f_law_entries : Addr
  d_law_entries : FuncData
  F_law_entries : Fun K "_law_entries" "_law_entries" s_law_entries f_law_entries d_law_entries
  g_law_entries : mg "_law_entries" = some (.ref f_law_entries)
  f_law_choices : Addr
  d_law_choices : FuncData
  F_law_choices : Fun K "_law_choices" "_law_choices" s_law_choices f_law_choices d_law_choices
  g_law_choices : mg "_law_choices" = some (.ref f_law_choices)
  f_law_table : Addr
  d_law_table : FuncData
  F_law_table : Fun K "_law_table" "_law_table" s_law_table f_law_table d_law_table
  g_law_table : mg "_law_table" = some (.ref f_law_table)
  f_law_fits : Addr
  d_law_fits : FuncData
  F_law_fits : Fun K "_law_fits" "_law_fits" s_law_fits f_law_fits d_law_fits
  g_law_fits : mg "_law_fits" = some (.ref f_law_fits)
  f_law_sound : Addr
  d_law_sound : FuncData
  F_law_sound : Fun K "_law_sound" "_law_sound" s_law_sound f_law_sound d_law_sound
  g_law_sound : mg "_law_sound" = some (.ref f_law_sound)
  f_law_terms : Addr
  d_law_terms : FuncData
  F_law_terms : Fun K "_law_terms" "_law_terms" s_law_terms f_law_terms d_law_terms
  g_law_terms : mg "_law_terms" = some (.ref f_law_terms)
  f_law_marks : Addr
  d_law_marks : FuncData
  F_law_marks : Fun K "_law_marks" "_law_marks" s_law_marks f_law_marks d_law_marks
  g_law_marks : mg "_law_marks" = some (.ref f_law_marks)
  f_law_names : Addr
  d_law_names : FuncData
  F_law_names : Fun K "_law_names" "_law_names" s_law_names f_law_names d_law_names
  g_law_names : mg "_law_names" = some (.ref f_law_names)
  f_law_steps : Addr
  d_law_steps : FuncData
  F_law_steps : Fun K "_law_steps" "_law_steps" s_law_steps f_law_steps d_law_steps
  g_law_steps : mg "_law_steps" = some (.ref f_law_steps)
  f_law_one : Addr
  d_law_one : FuncData
  F_law_one : Fun K "_law_one" "_law_one" s_law_one f_law_one d_law_one
  g_law_one : mg "_law_one" = some (.ref f_law_one)
  f_law_run : Addr
  d_law_run : FuncData
  F_law_run : Fun K "_law_run" "_law_run" s_law_run f_law_run d_law_run
  g_law_run : mg "_law_run" = some (.ref f_law_run)
  f_law_ints : Addr
  d_law_ints : FuncData
  F_law_ints : Fun K "_law_ints" "_law_ints" s_law_ints f_law_ints d_law_ints
  g_law_ints : mg "_law_ints" = some (.ref f_law_ints)
  f_law_asked : Addr
  d_law_asked : FuncData
  F_law_asked : Fun K "_law_asked" "_law_asked" s_law_asked f_law_asked d_law_asked
  g_law_asked : mg "_law_asked" = some (.ref f_law_asked)
  f_law_agrees : Addr
  d_law_agrees : FuncData
  F_law_agrees : Fun K "_law_agrees" "_law_agrees" s_law_agrees f_law_agrees d_law_agrees
  g_law_agrees : mg "_law_agrees" = some (.ref f_law_agrees)
  f_law : Addr
  d_law : FuncData
  F_law : Fun K "law" "law" s_law f_law d_law
  g_law : mg "law" = some (.ref f_law)
  g_GREATEST : ∃ t, mg "GREATEST" = some (.int 1000000000000000000000000000000 t)
  g_SIGNS : ∃ t, mg "SIGNS" = some (.str "abcdefghijklmnopqrstuvwxyz0123456789" t)
  g_LONGEST_NAME : ∃ t, mg "LONGEST_NAME" = some (.int 8 t)
  o_ENTRIES : Addr
  g_ENTRIES : mg "ENTRIES" = some (.ref o_ENTRIES)
  q_ENTRIES : ∀ H, SqT K H o_ENTRIES [.str "read late", .str "read under", .str "read below", .str "read above", .str "write late", .str "write under", .str "write below", .str "write above", .str "write free passed", .str "write own passed", .str "write late passed", .str "write under passed", .str "write below passed", .str "write above passed"]
  o_ANSWERS : Addr
  g_ANSWERS : mg "ANSWERS" = some (.ref o_ANSWERS)
  o0_ANSWERS : Addr
  q0_ANSWERS : ∀ H, SqT K H o0_ANSWERS [.str "last", .str "old", .str "abort"]
  o1_ANSWERS : Addr
  q1_ANSWERS : ∀ H, SqT K H o1_ANSWERS [.str "last", .str "old", .str "open", .str "wait", .str "abort"]
  o2_ANSWERS : Addr
  q2_ANSWERS : ∀ H, SqT K H o2_ANSWERS [.str "last", .str "open", .str "wait", .str "abort"]
  o3_ANSWERS : Addr
  q3_ANSWERS : ∀ H, SqT K H o3_ANSWERS [.str "last", .str "open", .str "wait", .str "abort"]
  o4_ANSWERS : Addr
  q4_ANSWERS : ∀ H, SqT K H o4_ANSWERS [.str "skip", .str "abort"]
  o5_ANSWERS : Addr
  q5_ANSWERS : ∀ H, SqT K H o5_ANSWERS [.str "skip", .str "wait", .str "wound", .str "abort"]
  o6_ANSWERS : Addr
  q6_ANSWERS : ∀ H, SqT K H o6_ANSWERS [.str "skip", .str "wait", .str "wound", .str "abort"]
  o7_ANSWERS : Addr
  q7_ANSWERS : ∀ H, SqT K H o7_ANSWERS [.str "skip", .str "wait", .str "wound", .str "abort"]
  o8_ANSWERS : Addr
  q8_ANSWERS : ∀ H, SqT K H o8_ANSWERS [.str "put", .str "abort"]
  o9_ANSWERS : Addr
  q9_ANSWERS : ∀ H, SqT K H o9_ANSWERS [.str "put", .str "abort"]
  o10_ANSWERS : Addr
  q10_ANSWERS : ∀ H, SqT K H o10_ANSWERS [.str "skip", .str "abort"]
  o11_ANSWERS : Addr
  q11_ANSWERS : ∀ H, SqT K H o11_ANSWERS [.str "skip", .str "wait", .str "wound", .str "abort"]
  o12_ANSWERS : Addr
  q12_ANSWERS : ∀ H, SqT K H o12_ANSWERS [.str "skip", .str "wait", .str "wound", .str "abort"]
  o13_ANSWERS : Addr
  q13_ANSWERS : ∀ H, SqT K H o13_ANSWERS [.str "skip", .str "wait", .str "wound", .str "abort"]
  es_ANSWERS : Array DictEntry
  ep_ANSWERS : Nat
  kd_ANSWERS : KDict K w o_ANSWERS es_ANSWERS ep_ANSWERS
  n0_ANSWERS : PySem.W.nsIn K o_ANSWERS "read late" = some (some (.ref o0_ANSWERS))
  n1_ANSWERS : PySem.W.nsIn K o_ANSWERS "read under" = some (some (.ref o1_ANSWERS))
  n2_ANSWERS : PySem.W.nsIn K o_ANSWERS "read below" = some (some (.ref o2_ANSWERS))
  n3_ANSWERS : PySem.W.nsIn K o_ANSWERS "read above" = some (some (.ref o3_ANSWERS))
  n4_ANSWERS : PySem.W.nsIn K o_ANSWERS "write late" = some (some (.ref o4_ANSWERS))
  n5_ANSWERS : PySem.W.nsIn K o_ANSWERS "write under" = some (some (.ref o5_ANSWERS))
  n6_ANSWERS : PySem.W.nsIn K o_ANSWERS "write below" = some (some (.ref o6_ANSWERS))
  n7_ANSWERS : PySem.W.nsIn K o_ANSWERS "write above" = some (some (.ref o7_ANSWERS))
  n8_ANSWERS : PySem.W.nsIn K o_ANSWERS "write free passed" = some (some (.ref o8_ANSWERS))
  n9_ANSWERS : PySem.W.nsIn K o_ANSWERS "write own passed" = some (some (.ref o9_ANSWERS))
  n10_ANSWERS : PySem.W.nsIn K o_ANSWERS "write late passed" = some (some (.ref o10_ANSWERS))
  n11_ANSWERS : PySem.W.nsIn K o_ANSWERS "write under passed" = some (some (.ref o11_ANSWERS))
  n12_ANSWERS : PySem.W.nsIn K o_ANSWERS "write below passed" = some (some (.ref o12_ANSWERS))
  n13_ANSWERS : PySem.W.nsIn K o_ANSWERS "write above passed" = some (some (.ref o13_ANSWERS))
  g_MOST_KEPT : ∃ t, mg "MOST_KEPT" = some (.int 20 t)
  n_NotImplemented : mg "NotImplemented" = none
  n_all : mg "all" = none
  n_bool : mg "bool" = none
  n_dict : mg "dict" = none
  n_enumerate : mg "enumerate" = none
  n_int : mg "int" = none
  n_isinstance : mg "isinstance" = none
  n_len : mg "len" = none
  n_range : mg "range" = none
  n_sorted : mg "sorted" = none
  n_str : mg "str" = none
  n_super : mg "super" = none
  n_tuple : mg "tuple" = none
theorem sc_BadStamp_init : NdefX.NScope ["self", "given", "__class__"] ["self", "given"] SI.sfr (defScope s_BadStamp_init) := NdefX.nscope_by (by decide +kernel)
theorem sc_BadEntry_init : NdefX.NScope ["self", "entry", "__class__"] ["self", "entry"] SI.sfr (defScope s_BadEntry_init) := NdefX.nscope_by (by decide +kernel)
theorem sc_BadAnswer_init : NdefX.NScope ["self", "entry", "answer", "__class__"] ["self", "entry", "answer"] SI.sfr (defScope s_BadAnswer_init) := NdefX.nscope_by (by decide +kernel)
theorem sc_BadSetting_init : NdefX.NScope ["self", "given", "__class__"] ["self", "given"] SI.sfr (defScope s_BadSetting_init) := NdefX.nscope_by (by decide +kernel)
theorem sc_BadStep_init : NdefX.NScope ["self", "index", "__class__"] ["self", "index"] SI.sfr (defScope s_BadStep_init) := NdefX.nscope_by (by decide +kernel)
theorem sc_Finished_init : NdefX.NScope ["self", "stamp", "__class__"] ["self", "stamp"] SI.sfr (defScope s_Finished_init) := NdefX.nscope_by (by decide +kernel)
theorem sc_MustWait_init : NdefX.NScope ["self", "stamp", "holders", "__class__"] ["self", "stamp", "holders"] SI.sfr (defScope s_MustWait_init) := NdefX.nscope_by (by decide +kernel)
theorem sc_TooLate_init : NdefX.NScope ["self", "entry", "__class__"] ["self", "entry"] SI.sfr (defScope s_TooLate_init) := NdefX.nscope_by (by decide +kernel)
theorem sc_BrokenOff_init : NdefX.NScope ["self", "stamp", "__class__"] ["self", "stamp"] SI.sfr (defScope s_BrokenOff_init) := NdefX.nscope_by (by decide +kernel)
theorem sc_Stamp_init : FnScope ["self", "number"] ["self", "number"] (defScope s_Stamp_init) := ⟨rfl, rfl, rfl, by decide +kernel, rfl, by decide +kernel, by decide +kernel⟩
theorem sc_Stamp_lt : FnScope ["self", "other"] ["self", "other"] (defScope s_Stamp_lt) := ⟨rfl, rfl, rfl, by decide +kernel, rfl, by decide +kernel, by decide +kernel⟩
theorem sc_Item_init : FnScope ["self", "kept", "holder", "value", "reader"] ["self", "kept", "holder", "value", "reader"] (defScope s_Item_init) := ⟨rfl, rfl, rfl, by decide +kernel, rfl, by decide +kernel, by decide +kernel⟩
theorem sc_State_init : FnScope ["self", "store", "over", "bonds"] ["self", "store", "over", "bonds"] (defScope s_State_init) := ⟨rfl, rfl, rfl, by decide +kernel, rfl, by decide +kernel, by decide +kernel⟩
theorem sc_Desk_init : FnScope ["self", "book"] ["self", "book"] (defScope s_Desk_init) := ⟨rfl, rfl, rfl, by decide +kernel, rfl, by decide +kernel, by decide +kernel⟩
theorem sc_Desk_begin : FnScope ["self", "stamp", "number", "asker"] ["self", "stamp"] (defScope s_Desk_begin) := ⟨rfl, rfl, rfl, by decide +kernel, rfl, by decide +kernel, by decide +kernel⟩
theorem sc_Desk_state_of : FnScope ["self", "stamp"] ["self", "stamp"] (defScope s_Desk_state_of) := ⟨rfl, rfl, rfl, by decide +kernel, rfl, by decide +kernel, by decide +kernel⟩
theorem sc_Desk_settle : FnScope ["self", "at", "outcome"] ["self"] (defScope s_Desk_settle) := ⟨rfl, rfl, rfl, by decide +kernel, rfl, by decide +kernel, by decide +kernel⟩
theorem sc_Desk_take : FnScope ["self", "step", "value", "outcome"] ["self", "step", "value"] (defScope s_Desk_take) := ⟨rfl, rfl, rfl, by decide +kernel, rfl, by decide +kernel, by decide +kernel⟩
theorem sc_Desk_ask : FnScope ["self", "step", "value", "outcome", "word", "met", "holders", "_"] ["self", "step", "value"] (defScope s_Desk_ask) := ⟨rfl, rfl, rfl, by decide +kernel, rfl, by decide +kernel, by decide +kernel⟩
theorem sc_Reader_read : FnScope ["self", "item"] ["self", "item"] (defScope s_Reader_read) := ⟨rfl, rfl, rfl, by decide +kernel, rfl, by decide +kernel, by decide +kernel⟩
theorem sc_Writer_write : FnScope ["self", "item", "value"] ["self", "item", "value"] (defScope s_Writer_write) := ⟨rfl, rfl, rfl, by decide +kernel, rfl, by decide +kernel, by decide +kernel⟩
theorem sc_Transaction_init : FnScope ["self", "desk", "stamp", "left"] ["self", "desk", "stamp", "left"] (defScope s_Transaction_init) := ⟨rfl, rfl, rfl, by decide +kernel, rfl, by decide +kernel, by decide +kernel⟩
theorem sc_Transaction_commit : FnScope ["self"] ["self"] (defScope s_Transaction_commit) := ⟨rfl, rfl, rfl, by decide +kernel, rfl, by decide +kernel, by decide +kernel⟩
theorem sc_Transaction_abort : FnScope ["self"] ["self"] (defScope s_Transaction_abort) := ⟨rfl, rfl, rfl, by decide +kernel, rfl, by decide +kernel, by decide +kernel⟩
theorem sc_Book_init : FnScope ["self", "answers", "ends", "keep", "entry", "given", "answer"] ["self", "answers", "ends", "keep"] (defScope s_Book_init) := ⟨rfl, rfl, rfl, by decide +kernel, rfl, by decide +kernel, by decide +kernel⟩
theorem sc_Book_ends : FnScope ["self"] ["self"] (defScope s_Book_ends) := ⟨rfl, rfl, rfl, by decide +kernel, rfl, by decide +kernel, by decide +kernel⟩
theorem sc_Book_keep : FnScope ["self"] ["self"] (defScope s_Book_keep) := ⟨rfl, rfl, rfl, by decide +kernel, rfl, by decide +kernel, by decide +kernel⟩
theorem sc_Book_copy : FnScope ["self"] ["self"] (defScope s_Book_copy) := ⟨rfl, rfl, rfl, by decide +kernel, rfl, by decide +kernel, by decide +kernel⟩
theorem sc_Book_getitem : FnScope ["self", "entry"] ["self", "entry"] (defScope s_Book_getitem) := ⟨rfl, rfl, rfl, by decide +kernel, rfl, by decide +kernel, by decide +kernel⟩
theorem sc_is_stamp : FnScope ["number", "least"] ["number", "least"] (defScope s_is_stamp) := ⟨rfl, rfl, rfl, by decide +kernel, rfl, by decide +kernel, by decide +kernel⟩
theorem sc_place : FnScope ["asker", "last", "holder"] ["asker", "last", "holder"] (defScope s_place) := ⟨rfl, rfl, rfl, by decide +kernel, rfl, by decide +kernel, by decide +kernel⟩
theorem sc_first_state : FnScope [] [] (defScope s_first_state) := ⟨rfl, rfl, rfl, by decide +kernel, rfl, by decide +kernel, by decide +kernel⟩
theorem sc_item_of : FnScope ["state", "name"] ["state", "name"] (defScope s_item_of) := ⟨rfl, rfl, rfl, by decide +kernel, rfl, by decide +kernel, by decide +kernel⟩
theorem sc_ascending : FnScope ["stamps", "stamp"] ["stamps"] (defScope s_ascending) := ⟨rfl, rfl, rfl, by decide +kernel, rfl, by decide +kernel, by decide +kernel⟩
theorem sc_taken : FnScope ["book", "state", "step", "value", "word", "stamp"] ["book", "state", "step", "value"] (defScope s_taken) := ⟨rfl, rfl, rfl, by decide +kernel, rfl, by decide +kernel, by decide +kernel⟩
theorem sc_committed : FnScope ["book", "state", "stamp", "bound", "holder", "holders", "over", "name", "item", "store"] ["book", "state", "stamp"] (defScope s_committed) := ⟨rfl, rfl, rfl, by decide +kernel, rfl, by decide +kernel, by decide +kernel⟩
theorem sc_settled : FnScope ["item", "stamp", "keep", "kept"] ["item", "stamp", "keep"] (defScope s_settled) := ⟨rfl, rfl, rfl, by decide +kernel, rfl, by decide +kernel, by decide +kernel⟩
theorem sc_aborted : FnScope ["state", "stamp", "met", "after", "fallen"] ["state", "stamp", "met"] (defScope s_aborted) := ⟨rfl, rfl, rfl, by decide +kernel, rfl, by decide +kernel, by decide +kernel⟩
theorem sc_without : FnScope ["state", "stamp", "fallen", "over", "each", "name", "item", "store"] ["state", "stamp"] (defScope s_without) := ⟨rfl, rfl, rfl, by decide +kernel, rfl, by decide +kernel, by decide +kernel⟩
theorem sc_falling : FnScope ["state", "stamp", "fallen", "at", "other", "holders"] ["state", "stamp"] (defScope s_falling) := ⟨rfl, rfl, rfl, by decide +kernel, rfl, by decide +kernel, by decide +kernel⟩
theorem sc_released : FnScope ["item", "fallen"] ["item", "fallen"] (defScope s_released) := ⟨rfl, rfl, rfl, by decide +kernel, rfl, by decide +kernel, by decide +kernel⟩
theorem sc_requested : FnScope ["book", "state", "step", "value", "between", "first", "word", "met", "_", "fallen", "after", "more", "returned", "others"] ["book", "state", "step", "value"] (defScope s_requested) := ⟨rfl, rfl, rfl, by decide +kernel, rfl, by decide +kernel, by decide +kernel⟩
theorem sc_asked : FnScope ["book", "state", "step", "value", "kind", "stamp", "name", "item", "spot", "entry", "met", "answer", "after", "fallen", "put"] ["book", "state", "step", "value"] (defScope s_asked) := ⟨rfl, rfl, rfl, by decide +kernel, rfl, by decide +kernel, by decide +kernel⟩
theorem sc_entry_met : FnScope ["kind", "spot", "passed"] ["kind", "spot", "passed"] (defScope s_entry_met) := ⟨rfl, rfl, rfl, by decide +kernel, rfl, by decide +kernel, by decide +kernel⟩
theorem sc_fixed_answer : FnScope ["kind", "spot"] ["kind", "spot"] (defScope s_fixed_answer) := ⟨rfl, rfl, rfl, by decide +kernel, rfl, by decide +kernel, by decide +kernel⟩
theorem sc_older_values : FnScope ["item", "stamp", "writer", "value"] ["item", "stamp"] (defScope s_older_values) := ⟨rfl, rfl, rfl, by decide +kernel, rfl, by decide +kernel, by decide +kernel⟩
theorem sc_value_read : FnScope ["item", "stamp", "answer"] ["item", "stamp", "answer"] (defScope s_value_read) := ⟨rfl, rfl, rfl, by decide +kernel, rfl, by decide +kernel, by decide +kernel⟩
theorem sc_binds : FnScope ["ends", "spot", "answer"] ["ends", "spot", "answer"] (defScope s_binds) := ⟨rfl, rfl, rfl, by decide +kernel, rfl, by decide +kernel, by decide +kernel⟩
theorem sc_with_bond : FnScope ["state", "stamp", "holder", "bound", "bonds"] ["state", "stamp", "holder"] (defScope s_with_bond) := ⟨rfl, rfl, rfl, by decide +kernel, rfl, by decide +kernel, by decide +kernel⟩
theorem sc_with_reader : FnScope ["state", "name", "stamp", "item"] ["state", "name", "stamp"] (defScope s_with_reader) := ⟨rfl, rfl, rfl, by decide +kernel, rfl, by decide +kernel, by decide +kernel⟩
theorem sc_with_item : FnScope ["state", "name", "item", "store"] ["state", "name", "item"] (defScope s_with_item) := ⟨rfl, rfl, rfl, by decide +kernel, rfl, by decide +kernel, by decide +kernel⟩
theorem sc_play : FnScope ["book", "run", "_", "outcome"] ["book", "run"] (defScope s_play) := ⟨rfl, rfl, rfl, by decide +kernel, rfl, by decide +kernel, by decide +kernel⟩
theorem sc_traced : FnScope ["book", "run", "state", "trace", "number", "step", "after", "outcome"] ["book", "run"] (defScope s_traced) := ⟨rfl, rfl, rfl, by decide +kernel, rfl, by decide +kernel, by decide +kernel⟩
theorem sc_check_run : FnScope ["run", "index", "part"] ["run"] (defScope s_check_run) := ⟨rfl, rfl, rfl, by decide +kernel, rfl, by decide +kernel, by decide +kernel⟩
theorem sc_is_step : FnScope ["part"] ["part"] (defScope s_is_step) := ⟨rfl, rfl, rfl, by decide +kernel, rfl, by decide +kernel, by decide +kernel⟩
theorem sc_is_name : FnScope ["name", "sign"] ["name"] (defScope s_is_name) := ⟨rfl, rfl, rfl, by decide +kernel, rfl, by decide +kernel, by decide +kernel⟩
theorem sc_answers_at : FnScope ["entry"] ["entry"] (defScope s_answers_at) := ⟨rfl, rfl, rfl, by decide +kernel, rfl, by decide +kernel, by decide +kernel⟩
theorem sc_check_answer : FnScope ["entry", "answer"] ["entry", "answer"] (defScope s_check_answer) := ⟨rfl, rfl, rfl, by decide +kernel, rfl, by decide +kernel, by decide +kernel⟩
theorem sc_is_keep : FnScope ["keep"] ["keep"] (defScope s_is_keep) := ⟨rfl, rfl, rfl, by decide +kernel, rfl, by decide +kernel, by decide +kernel⟩
theorem sc_law_cell : FnScope ["_law_script", "_law_k"] ["_law_script", "_law_k"] (defScope s_law_cell) := ⟨rfl, rfl, rfl, by decide +kernel, rfl, by decide +kernel, by decide +kernel⟩
theorem sc_law_row : FnScope ["_law_cell_here", "_law_count", "_law_base", "_law_row_here", "_law_rest", "_law_mixed", "_law_k"] ["_law_cell_here", "_law_count", "_law_base"] (defScope s_law_row) := ⟨rfl, rfl, rfl, by decide +kernel, rfl, by decide +kernel, by decide +kernel⟩
theorem sc_law_entries : FnScope ["_law_names_here"] [] (defScope s_law_entries) := ⟨rfl, rfl, rfl, by decide +kernel, rfl, by decide +kernel, by decide +kernel⟩
theorem sc_law_choices : FnScope ["_law_name"] ["_law_name"] (defScope s_law_choices) := ⟨rfl, rfl, rfl, by decide +kernel, rfl, by decide +kernel, by decide +kernel⟩
theorem sc_law_table : FnScope ["_law_cell_here", "_law_table_here", "_law_names_here", "_law_draws", "_law_k", "_law_options"] ["_law_cell_here"] (defScope s_law_table) := ⟨rfl, rfl, rfl, by decide +kernel, rfl, by decide +kernel, by decide +kernel⟩
theorem sc_law_fits : FnScope ["_law_name", "_law_answer", "_law_flags", "_law_lifted", "_law_under", "_law_older", "_law_skips"] ["_law_name", "_law_answer", "_law_flags"] (defScope s_law_fits) := ⟨rfl, rfl, rfl, by decide +kernel, rfl, by decide +kernel, by decide +kernel⟩
theorem sc_law_sound : FnScope ["_law_cell_here", "_law_rule", "_law_kept", "_law_draws", "_law_lifted", "_law_under", "_law_older", "_law_flags", "_law_table_here", "_law_names_here", "_law_k", "_law_options", "_law_answer", "_law_good"] ["_law_cell_here", "_law_rule", "_law_kept"] (defScope s_law_sound) := ⟨rfl, rfl, rfl, by decide +kernel, rfl, by decide +kernel, by decide +kernel⟩
theorem sc_law_terms : FnScope ["_law_script", "_law_cell_here", "_law_rule", "_law_family", "_law_kept", "_law_table_here", "_law_name", "_law_options"] ["_law_script"] (defScope s_law_terms) := ⟨rfl, rfl, rfl, by decide +kernel, rfl, by decide +kernel, by decide +kernel⟩
theorem sc_law_marks : FnScope ["_law_cell_here", "_law_many", "_law_gaps", "_law_marks_here", "_law_mark", "_law_draw"] ["_law_cell_here", "_law_many"] (defScope s_law_marks) := ⟨rfl, rfl, rfl, by decide +kernel, rfl, by decide +kernel, by decide +kernel⟩
theorem sc_law_names : FnScope ["_law_cell_here", "_law_signs", "_law_draws", "_law_k", "_law_first"] ["_law_cell_here"] (defScope s_law_names) := ⟨rfl, rfl, rfl, by decide +kernel, rfl, by decide +kernel, by decide +kernel⟩
theorem sc_law_steps : FnScope ["_law_draws", "_law_marks_here", "_law_names_here", "_law_kinds", "_law_run_here", "_law_draw", "_law_kind", "_law_mark"] ["_law_draws", "_law_marks_here", "_law_names_here"] (defScope s_law_steps) := ⟨rfl, rfl, rfl, by decide +kernel, rfl, by decide +kernel, by decide +kernel⟩
theorem sc_law_one : FnScope ["_law_cell_here", "_law_k", "_law_base"] ["_law_cell_here", "_law_k", "_law_base"] (defScope s_law_one) := ⟨rfl, rfl, rfl, by decide +kernel, rfl, by decide +kernel, by decide +kernel⟩
theorem sc_law_run : FnScope ["_law_script", "_law_at", "_law_cell_here", "_law_marks_here", "_law_names_here", "_law_base", "_law_draws", "_law_k"] ["_law_script", "_law_at"] (defScope s_law_run) := ⟨rfl, rfl, rfl, by decide +kernel, rfl, by decide +kernel, by decide +kernel⟩
theorem sc_law_ints : FnScope ["_law_actual", "_law_due", "_law_k"] ["_law_actual", "_law_due"] (defScope s_law_ints) := ⟨rfl, rfl, rfl, by decide +kernel, rfl, by decide +kernel, by decide +kernel⟩
theorem sc_law_asked : FnScope ["_law_person", "_law_step", "_law_value", "_law_done", "e", "_law_kinds"] ["_law_person", "_law_step", "_law_value"] (defScope s_law_asked) := ⟨rfl, rfl, rfl, by decide +kernel, rfl, by decide +kernel, by decide +kernel⟩
theorem sc_law_agrees : FnScope ["_law_asked_here", "_law_step", "_law_outcome", "_law_word"] ["_law_asked_here", "_law_step", "_law_outcome"] (defScope s_law_agrees) := ⟨rfl, rfl, rfl, by decide +kernel, rfl, by decide +kernel, by decide +kernel⟩
theorem sc_law : FnScope ["_law_script", "_law_terms_here", "_law_book", "_law_run_here", "_law_told", "_law_desk", "_law_people", "_law_states", "_law_mark", "_law_step", "_law_k"] ["_law_script"] (defScope s_law) := ⟨rfl, rfl, rfl, by decide +kernel, rfl, by decide +kernel, by decide +kernel⟩
section
variable {w : World} {K : PySem.W.Frag} {mg : Str → Option Value} (T : Txt w K mg)
include T
theorem b_BadStamp_init : Binds K T.d_BadStamp_init ["self", "given"] [] := by
  obtain ⟨_, _, _, _, _, _, _, _, e, _⟩ := T.S_BadStamp_init.fn
  rw [e]
  exact .all fun us hl => match us, hl with | [_, _], _ => rfl
theorem b_BadEntry_init : Binds K T.d_BadEntry_init ["self", "entry"] [] := by
  obtain ⟨_, _, _, _, _, _, _, _, e, _⟩ := T.S_BadEntry_init.fn
  rw [e]
  exact .all fun us hl => match us, hl with | [_, _], _ => rfl
theorem b_BadAnswer_init : Binds K T.d_BadAnswer_init ["self", "entry", "answer"] [] := by
  obtain ⟨_, _, _, _, _, _, _, _, e, _⟩ := T.S_BadAnswer_init.fn
  rw [e]
  exact .all fun us hl => match us, hl with | [_, _, _], _ => rfl
theorem b_BadSetting_init : Binds K T.d_BadSetting_init ["self", "given"] [] := by
  obtain ⟨_, _, _, _, _, _, _, _, e, _⟩ := T.S_BadSetting_init.fn
  rw [e]
  exact .all fun us hl => match us, hl with | [_, _], _ => rfl
theorem b_BadStep_init : Binds K T.d_BadStep_init ["self", "index"] [] := by
  obtain ⟨_, _, _, _, _, _, _, _, e, _⟩ := T.S_BadStep_init.fn
  rw [e]
  exact .all fun us hl => match us, hl with | [_, _], _ => rfl
theorem b_Finished_init : Binds K T.d_Finished_init ["self", "stamp"] [] := by
  obtain ⟨_, _, _, _, _, _, _, _, e, _⟩ := T.S_Finished_init.fn
  rw [e]
  exact .all fun us hl => match us, hl with | [_, _], _ => rfl
theorem b_MustWait_init : Binds K T.d_MustWait_init ["self", "stamp", "holders"] [] := by
  obtain ⟨_, _, _, _, _, _, _, _, e, _⟩ := T.S_MustWait_init.fn
  rw [e]
  exact .all fun us hl => match us, hl with | [_, _, _], _ => rfl
theorem b_TooLate_init : Binds K T.d_TooLate_init ["self", "entry"] [] := by
  obtain ⟨_, _, _, _, _, _, _, _, e, _⟩ := T.S_TooLate_init.fn
  rw [e]
  exact .all fun us hl => match us, hl with | [_, _], _ => rfl
theorem b_BrokenOff_init : Binds K T.d_BrokenOff_init ["self", "stamp"] [] := by
  obtain ⟨_, _, _, _, _, _, _, _, e, _⟩ := T.S_BrokenOff_init.fn
  rw [e]
  exact .all fun us hl => match us, hl with | [_, _], _ => rfl
theorem b_Stamp_init : Binds K T.d_Stamp_init ["self", "number"] [] := T.F_Stamp_init.binds (ps := ["self", "number"]) fun _ _ _ _ _ _ us hl => match us, hl with | [_, _], _ => rfl
theorem b_Stamp_lt : Binds K T.d_Stamp_lt ["self", "other"] [] := T.F_Stamp_lt.binds (ps := ["self", "other"]) fun _ _ _ _ _ _ us hl => match us, hl with | [_, _], _ => rfl
theorem b_Item_init : Binds K T.d_Item_init ["self", "kept", "holder", "value", "reader"] [] := T.F_Item_init.binds (ps := ["self", "kept", "holder", "value", "reader"]) fun _ _ _ _ _ _ us hl => match us, hl with | [_, _, _, _, _], _ => rfl
theorem b_State_init : Binds K T.d_State_init ["self", "store", "over", "bonds"] [] := T.F_State_init.binds (ps := ["self", "store", "over", "bonds"]) fun _ _ _ _ _ _ us hl => match us, hl with | [_, _, _, _], _ => rfl
theorem b_Desk_init : Binds K T.d_Desk_init ["self", "book"] [] := T.F_Desk_init.binds (ps := ["self", "book"]) fun _ _ _ _ _ _ us hl => match us, hl with | [_, _], _ => rfl
theorem b_Desk_state_of : Binds K T.d_Desk_state_of ["self", "stamp"] [] := T.F_Desk_state_of.binds (ps := ["self", "stamp"]) fun _ _ _ _ _ _ us hl => match us, hl with | [_, _], _ => rfl
theorem b_Desk_settle : Binds K T.d_Desk_settle ["self"] [] := T.F_Desk_settle.binds (ps := ["self"]) fun _ _ _ _ _ _ us hl => match us, hl with | [_], _ => rfl
theorem b_Desk_take : Binds K T.d_Desk_take ["self", "step", "value"] [] := T.F_Desk_take.binds (ps := ["self", "step", "value"]) fun _ _ _ _ _ _ us hl => match us, hl with | [_, _, _], _ => rfl
theorem b_Desk_ask : Binds K T.d_Desk_ask ["self", "step", "value"] [] := T.F_Desk_ask.binds (ps := ["self", "step", "value"]) fun _ _ _ _ _ _ us hl => match us, hl with | [_, _, _], _ => rfl
theorem b_Reader_read : Binds K T.d_Reader_read ["self", "item"] [] := T.F_Reader_read.binds (ps := ["self", "item"]) fun _ _ _ _ _ _ us hl => match us, hl with | [_, _], _ => rfl
theorem b_Writer_write : Binds K T.d_Writer_write ["self", "item", "value"] [] := T.F_Writer_write.binds (ps := ["self", "item", "value"]) fun _ _ _ _ _ _ us hl => match us, hl with | [_, _, _], _ => rfl
theorem b_Transaction_init : Binds K T.d_Transaction_init ["self", "desk", "stamp", "left"] [] := T.F_Transaction_init.binds (ps := ["self", "desk", "stamp", "left"]) fun _ _ _ _ _ _ us hl => match us, hl with | [_, _, _, _], _ => rfl
theorem b_Transaction_commit : Binds K T.d_Transaction_commit ["self"] [] := T.F_Transaction_commit.binds (ps := ["self"]) fun _ _ _ _ _ _ us hl => match us, hl with | [_], _ => rfl
theorem b_Transaction_abort : Binds K T.d_Transaction_abort ["self"] [] := T.F_Transaction_abort.binds (ps := ["self"]) fun _ _ _ _ _ _ us hl => match us, hl with | [_], _ => rfl
theorem b_Book_ends : Binds K T.d_Book_ends ["self"] [] := T.F_Book_ends.binds (ps := ["self"]) fun _ _ _ _ _ _ us hl => match us, hl with | [_], _ => rfl
theorem b_Book_keep : Binds K T.d_Book_keep ["self"] [] := T.F_Book_keep.binds (ps := ["self"]) fun _ _ _ _ _ _ us hl => match us, hl with | [_], _ => rfl
theorem b_Book_copy : Binds K T.d_Book_copy ["self"] [] := T.F_Book_copy.binds (ps := ["self"]) fun _ _ _ _ _ _ us hl => match us, hl with | [_], _ => rfl
theorem b_Book_getitem : Binds K T.d_Book_getitem ["self", "entry"] [] := T.F_Book_getitem.binds (ps := ["self", "entry"]) fun _ _ _ _ _ _ us hl => match us, hl with | [_, _], _ => rfl
theorem b0_is_stamp : ∃ ds, Vals [] ds ∧ Binds K T.d_is_stamp ["number", "least"] ds := T.F_is_stamp.binds1 2 1 (by simp) rfl fun _ _ _ _ _ _ _ us its hu hi => match us, hu, its, hi with | [_, _], _, [_], _ => ⟨_, rfl, rfl⟩
theorem b1_is_stamp : ∃ ds, Vals [.int 0] ds ∧ Binds K T.d_is_stamp ["number", "least"] ds := T.F_is_stamp.binds1 1 0 (by simp) rfl fun _ _ _ _ _ _ _ us its hu hi => match us, hu, its, hi with | [_], _, [_], _ => ⟨_, rfl, rfl⟩
theorem b_place : Binds K T.d_place ["asker", "last", "holder"] [] := T.F_place.binds (ps := ["asker", "last", "holder"]) fun _ _ _ _ _ _ us hl => match us, hl with | [_, _, _], _ => rfl
theorem b_first_state : Binds K T.d_first_state [] [] := T.F_first_state.binds (ps := []) fun _ _ _ _ _ _ us hl => match us, hl with | [], _ => rfl
theorem b_item_of : Binds K T.d_item_of ["state", "name"] [] := T.F_item_of.binds (ps := ["state", "name"]) fun _ _ _ _ _ _ us hl => match us, hl with | [_, _], _ => rfl
theorem b_ascending : Binds K T.d_ascending ["stamps"] [] := T.F_ascending.binds (ps := ["stamps"]) fun _ _ _ _ _ _ us hl => match us, hl with | [_], _ => rfl
theorem b_taken : Binds K T.d_taken ["book", "state", "step", "value"] [] := T.F_taken.binds (ps := ["book", "state", "step", "value"]) fun _ _ _ _ _ _ us hl => match us, hl with | [_, _, _, _], _ => rfl
theorem b_committed : Binds K T.d_committed ["book", "state", "stamp"] [] := T.F_committed.binds (ps := ["book", "state", "stamp"]) fun _ _ _ _ _ _ us hl => match us, hl with | [_, _, _], _ => rfl
theorem b_settled : Binds K T.d_settled ["item", "stamp", "keep"] [] := T.F_settled.binds (ps := ["item", "stamp", "keep"]) fun _ _ _ _ _ _ us hl => match us, hl with | [_, _, _], _ => rfl
theorem b_aborted : Binds K T.d_aborted ["state", "stamp", "met"] [] := T.F_aborted.binds (ps := ["state", "stamp", "met"]) fun _ _ _ _ _ _ us hl => match us, hl with | [_, _, _], _ => rfl
theorem b_without : Binds K T.d_without ["state", "stamp"] [] := T.F_without.binds (ps := ["state", "stamp"]) fun _ _ _ _ _ _ us hl => match us, hl with | [_, _], _ => rfl
theorem b_falling : Binds K T.d_falling ["state", "stamp"] [] := T.F_falling.binds (ps := ["state", "stamp"]) fun _ _ _ _ _ _ us hl => match us, hl with | [_, _], _ => rfl
theorem b_released : Binds K T.d_released ["item", "fallen"] [] := T.F_released.binds (ps := ["item", "fallen"]) fun _ _ _ _ _ _ us hl => match us, hl with | [_, _], _ => rfl
theorem b_requested : Binds K T.d_requested ["book", "state", "step", "value"] [] := T.F_requested.binds (ps := ["book", "state", "step", "value"]) fun _ _ _ _ _ _ us hl => match us, hl with | [_, _, _, _], _ => rfl
theorem b_asked : Binds K T.d_asked ["book", "state", "step", "value"] [] := T.F_asked.binds (ps := ["book", "state", "step", "value"]) fun _ _ _ _ _ _ us hl => match us, hl with | [_, _, _, _], _ => rfl
theorem b_entry_met : Binds K T.d_entry_met ["kind", "spot", "passed"] [] := T.F_entry_met.binds (ps := ["kind", "spot", "passed"]) fun _ _ _ _ _ _ us hl => match us, hl with | [_, _, _], _ => rfl
theorem b_fixed_answer : Binds K T.d_fixed_answer ["kind", "spot"] [] := T.F_fixed_answer.binds (ps := ["kind", "spot"]) fun _ _ _ _ _ _ us hl => match us, hl with | [_, _], _ => rfl
theorem b_older_values : Binds K T.d_older_values ["item", "stamp"] [] := T.F_older_values.binds (ps := ["item", "stamp"]) fun _ _ _ _ _ _ us hl => match us, hl with | [_, _], _ => rfl
theorem b_value_read : Binds K T.d_value_read ["item", "stamp", "answer"] [] := T.F_value_read.binds (ps := ["item", "stamp", "answer"]) fun _ _ _ _ _ _ us hl => match us, hl with | [_, _, _], _ => rfl
theorem b_binds : Binds K T.d_binds ["ends", "spot", "answer"] [] := T.F_binds.binds (ps := ["ends", "spot", "answer"]) fun _ _ _ _ _ _ us hl => match us, hl with | [_, _, _], _ => rfl
theorem b_with_bond : Binds K T.d_with_bond ["state", "stamp", "holder"] [] := T.F_with_bond.binds (ps := ["state", "stamp", "holder"]) fun _ _ _ _ _ _ us hl => match us, hl with | [_, _, _], _ => rfl
theorem b_with_reader : Binds K T.d_with_reader ["state", "name", "stamp"] [] := T.F_with_reader.binds (ps := ["state", "name", "stamp"]) fun _ _ _ _ _ _ us hl => match us, hl with | [_, _, _], _ => rfl
theorem b_with_item : Binds K T.d_with_item ["state", "name", "item"] [] := T.F_with_item.binds (ps := ["state", "name", "item"]) fun _ _ _ _ _ _ us hl => match us, hl with | [_, _, _], _ => rfl
theorem b_play : Binds K T.d_play ["book", "run"] [] := T.F_play.binds (ps := ["book", "run"]) fun _ _ _ _ _ _ us hl => match us, hl with | [_, _], _ => rfl
theorem b_traced : Binds K T.d_traced ["book", "run"] [] := T.F_traced.binds (ps := ["book", "run"]) fun _ _ _ _ _ _ us hl => match us, hl with | [_, _], _ => rfl
theorem b_check_run : Binds K T.d_check_run ["run"] [] := T.F_check_run.binds (ps := ["run"]) fun _ _ _ _ _ _ us hl => match us, hl with | [_], _ => rfl
theorem b_is_step : Binds K T.d_is_step ["part"] [] := T.F_is_step.binds (ps := ["part"]) fun _ _ _ _ _ _ us hl => match us, hl with | [_], _ => rfl
theorem b_is_name : Binds K T.d_is_name ["name"] [] := T.F_is_name.binds (ps := ["name"]) fun _ _ _ _ _ _ us hl => match us, hl with | [_], _ => rfl
theorem b_answers_at : Binds K T.d_answers_at ["entry"] [] := T.F_answers_at.binds (ps := ["entry"]) fun _ _ _ _ _ _ us hl => match us, hl with | [_], _ => rfl
theorem b_check_answer : Binds K T.d_check_answer ["entry", "answer"] [] := T.F_check_answer.binds (ps := ["entry", "answer"]) fun _ _ _ _ _ _ us hl => match us, hl with | [_, _], _ => rfl
theorem b_is_keep : Binds K T.d_is_keep ["keep"] [] := T.F_is_keep.binds (ps := ["keep"]) fun _ _ _ _ _ _ us hl => match us, hl with | [_], _ => rfl
theorem b_law_cell : Binds K T.d_law_cell ["_law_script", "_law_k"] [] := T.F_law_cell.binds (ps := ["_law_script", "_law_k"]) fun _ _ _ _ _ _ us hl => match us, hl with | [_, _], _ => rfl
theorem b_law_row : Binds K T.d_law_row ["_law_cell_here", "_law_count", "_law_base"] [] := T.F_law_row.binds (ps := ["_law_cell_here", "_law_count", "_law_base"]) fun _ _ _ _ _ _ us hl => match us, hl with | [_, _, _], _ => rfl
theorem b_law_entries : Binds K T.d_law_entries [] [] := T.F_law_entries.binds (ps := []) fun _ _ _ _ _ _ us hl => match us, hl with | [], _ => rfl
theorem b_law_choices : Binds K T.d_law_choices ["_law_name"] [] := T.F_law_choices.binds (ps := ["_law_name"]) fun _ _ _ _ _ _ us hl => match us, hl with | [_], _ => rfl
theorem b_law_table : Binds K T.d_law_table ["_law_cell_here"] [] := T.F_law_table.binds (ps := ["_law_cell_here"]) fun _ _ _ _ _ _ us hl => match us, hl with | [_], _ => rfl
theorem b_law_fits : Binds K T.d_law_fits ["_law_name", "_law_answer", "_law_flags"] [] := T.F_law_fits.binds (ps := ["_law_name", "_law_answer", "_law_flags"]) fun _ _ _ _ _ _ us hl => match us, hl with | [_, _, _], _ => rfl
theorem b_law_sound : Binds K T.d_law_sound ["_law_cell_here", "_law_rule", "_law_kept"] [] := T.F_law_sound.binds (ps := ["_law_cell_here", "_law_rule", "_law_kept"]) fun _ _ _ _ _ _ us hl => match us, hl with | [_, _, _], _ => rfl
theorem b_law_terms : Binds K T.d_law_terms ["_law_script"] [] := T.F_law_terms.binds (ps := ["_law_script"]) fun _ _ _ _ _ _ us hl => match us, hl with | [_], _ => rfl
theorem b_law_marks : Binds K T.d_law_marks ["_law_cell_here", "_law_many"] [] := T.F_law_marks.binds (ps := ["_law_cell_here", "_law_many"]) fun _ _ _ _ _ _ us hl => match us, hl with | [_, _], _ => rfl
theorem b_law_names : Binds K T.d_law_names ["_law_cell_here"] [] := T.F_law_names.binds (ps := ["_law_cell_here"]) fun _ _ _ _ _ _ us hl => match us, hl with | [_], _ => rfl
theorem b_law_steps : Binds K T.d_law_steps ["_law_draws", "_law_marks_here", "_law_names_here"] [] := T.F_law_steps.binds (ps := ["_law_draws", "_law_marks_here", "_law_names_here"]) fun _ _ _ _ _ _ us hl => match us, hl with | [_, _, _], _ => rfl
theorem b_law_one : Binds K T.d_law_one ["_law_cell_here", "_law_k", "_law_base"] [] := T.F_law_one.binds (ps := ["_law_cell_here", "_law_k", "_law_base"]) fun _ _ _ _ _ _ us hl => match us, hl with | [_, _, _], _ => rfl
theorem b_law_run : Binds K T.d_law_run ["_law_script", "_law_at"] [] := T.F_law_run.binds (ps := ["_law_script", "_law_at"]) fun _ _ _ _ _ _ us hl => match us, hl with | [_, _], _ => rfl
theorem b_law_ints : Binds K T.d_law_ints ["_law_actual", "_law_due"] [] := T.F_law_ints.binds (ps := ["_law_actual", "_law_due"]) fun _ _ _ _ _ _ us hl => match us, hl with | [_, _], _ => rfl
theorem b_law_asked : Binds K T.d_law_asked ["_law_person", "_law_step", "_law_value"] [] := T.F_law_asked.binds (ps := ["_law_person", "_law_step", "_law_value"]) fun _ _ _ _ _ _ us hl => match us, hl with | [_, _, _], _ => rfl
theorem b_law_agrees : Binds K T.d_law_agrees ["_law_asked_here", "_law_step", "_law_outcome"] [] := T.F_law_agrees.binds (ps := ["_law_asked_here", "_law_step", "_law_outcome"]) fun _ _ _ _ _ _ us hl => match us, hl with | [_, _, _], _ => rfl
theorem b_law : Binds K T.d_law ["_law_script"] [] := T.F_law.binds (ps := ["_law_script"]) fun _ _ _ _ _ _ us hl => match us, hl with | [_], _ => rfl
end
theorem all_mk {w : World} {K : PySem.W.Frag} {h : Heap} {mg : Str → Option Value} {fa c_StampError c_BadStamp c_BadEntry c_BadAnswer c_BadSetting c_BadStep c_Finished c_MustWait c_TooLate c_BrokenOff c_Stamp c_Item c_State c_Desk c_Reader c_Writer c_Transaction c_Book f_BadStamp_init f_BadEntry_init f_BadAnswer_init f_BadSetting_init f_BadStep_init f_Finished_init f_MustWait_init f_TooLate_init f_BrokenOff_init f_Stamp_init f_Stamp_lt f_Item_init f_State_init f_Desk_init f_Desk_begin f_Desk_state_of f_Desk_settle f_Desk_take f_Desk_ask f_Reader_read f_Writer_write f_Transaction_init f_Transaction_commit f_Transaction_abort f_Book_init f_Book_ends pr_Book_ends f_Book_keep pr_Book_keep f_Book_copy f_Book_getitem f_is_stamp f_place f_first_state f_item_of f_ascending f_taken f_committed f_settled f_aborted f_without f_falling f_released f_requested f_asked f_entry_met f_fixed_answer f_older_values f_value_read f_binds f_with_bond f_with_reader f_with_item f_play f_traced f_check_run f_is_step f_is_name f_answers_at f_check_answer f_is_keep f_law_cell f_law_row f_law_entries f_law_choices f_law_table f_law_fits f_law_sound f_law_terms f_law_marks f_law_names f_law_steps f_law_one f_law_run f_law_ints f_law_asked f_law_agrees f_law o_ENTRIES o_ANSWERS o0_ANSWERS o1_ANSWERS o2_ANSWERS o3_ANSWERS o4_ANSWERS o5_ANSWERS o6_ANSWERS o7_ANSWERS o8_ANSWERS o9_ANSWERS o10_ANSWERS o11_ANSWERS o12_ANSWERS o13_ANSWERS : Addr} (X : K.In h) (G : h.Ns mainGlobals mg) (hfa : mg "law" = some (.ref fa))
    {nm_StampError q_StampError : Str} {N_StampError : Addr} {bs_StampError : List Value} {sn_StampError : List Str} {sub_StampError : List Value} {ab_StampError : Bool} {col_StampError : Option Bool} {dd_StampError : Option Addr} {m0_StampError m1_StampError m2_StampError m3_StampError m5_StampError : Option Value}
    {nm_BadStamp q_BadStamp : Str} {N_BadStamp : Addr} {bs_BadStamp : List Value} {sn_BadStamp : List Str} {sub_BadStamp : List Value} {ab_BadStamp : Bool} {col_BadStamp : Option Bool} {dd_BadStamp : Option Addr} {m0_BadStamp m1_BadStamp m2_BadStamp m3_BadStamp m5_BadStamp : Option Value}
    {nm_BadEntry q_BadEntry : Str} {N_BadEntry : Addr} {bs_BadEntry : List Value} {sn_BadEntry : List Str} {sub_BadEntry : List Value} {ab_BadEntry : Bool} {col_BadEntry : Option Bool} {dd_BadEntry : Option Addr} {m0_BadEntry m1_BadEntry m2_BadEntry m3_BadEntry m5_BadEntry : Option Value}
    {nm_BadAnswer q_BadAnswer : Str} {N_BadAnswer : Addr} {bs_BadAnswer : List Value} {sn_BadAnswer : List Str} {sub_BadAnswer : List Value} {ab_BadAnswer : Bool} {col_BadAnswer : Option Bool} {dd_BadAnswer : Option Addr} {m0_BadAnswer m1_BadAnswer m2_BadAnswer m3_BadAnswer m5_BadAnswer : Option Value}
    {nm_BadSetting q_BadSetting : Str} {N_BadSetting : Addr} {bs_BadSetting : List Value} {sn_BadSetting : List Str} {sub_BadSetting : List Value} {ab_BadSetting : Bool} {col_BadSetting : Option Bool} {dd_BadSetting : Option Addr} {m0_BadSetting m1_BadSetting m2_BadSetting m3_BadSetting m5_BadSetting : Option Value}
    {nm_BadStep q_BadStep : Str} {N_BadStep : Addr} {bs_BadStep : List Value} {sn_BadStep : List Str} {sub_BadStep : List Value} {ab_BadStep : Bool} {col_BadStep : Option Bool} {dd_BadStep : Option Addr} {m0_BadStep m1_BadStep m2_BadStep m3_BadStep m5_BadStep : Option Value}
    {nm_Finished q_Finished : Str} {N_Finished : Addr} {bs_Finished : List Value} {sn_Finished : List Str} {sub_Finished : List Value} {ab_Finished : Bool} {col_Finished : Option Bool} {dd_Finished : Option Addr} {m0_Finished m1_Finished m2_Finished m3_Finished m5_Finished : Option Value}
    {nm_MustWait q_MustWait : Str} {N_MustWait : Addr} {bs_MustWait : List Value} {sn_MustWait : List Str} {sub_MustWait : List Value} {ab_MustWait : Bool} {col_MustWait : Option Bool} {dd_MustWait : Option Addr} {m0_MustWait m1_MustWait m2_MustWait m3_MustWait m5_MustWait : Option Value}
    {nm_TooLate q_TooLate : Str} {N_TooLate : Addr} {bs_TooLate : List Value} {sn_TooLate : List Str} {sub_TooLate : List Value} {ab_TooLate : Bool} {col_TooLate : Option Bool} {dd_TooLate : Option Addr} {m0_TooLate m1_TooLate m2_TooLate m3_TooLate m5_TooLate : Option Value}
    {nm_BrokenOff q_BrokenOff : Str} {N_BrokenOff : Addr} {bs_BrokenOff : List Value} {sn_BrokenOff : List Str} {sub_BrokenOff : List Value} {ab_BrokenOff : Bool} {col_BrokenOff : Option Bool} {dd_BrokenOff : Option Addr} {m0_BrokenOff m1_BrokenOff m2_BrokenOff m3_BrokenOff m5_BrokenOff : Option Value}
    {od_BadStamp_init an_BadStamp_init : Option Addr} {sl_BadStamp_init : Array (Option Value)} {oc_BadStamp_init kV_BadStamp_init dc_BadStamp_init pm_BadStamp_init ct_BadStamp_init : Value}
    {cc_BadStamp_init cdr_BadStamp_init : Addr} {ccl_BadStamp_init cdo_BadStamp_init : Value} {cdd_BadStamp_init cod_BadStamp_init : Option Addr} {ccs_BadStamp_init cos_BadStamp_init : Array (Option Value)} {cvs_BadStamp_init : Array Value} {cfile_BadStamp_init : Str} {ctk_BadStamp_init : Tok}
    {od_BadEntry_init an_BadEntry_init : Option Addr} {sl_BadEntry_init : Array (Option Value)} {oc_BadEntry_init kV_BadEntry_init dc_BadEntry_init pm_BadEntry_init ct_BadEntry_init : Value}
    {cc_BadEntry_init cdr_BadEntry_init : Addr} {ccl_BadEntry_init cdo_BadEntry_init : Value} {cdd_BadEntry_init cod_BadEntry_init : Option Addr} {ccs_BadEntry_init cos_BadEntry_init : Array (Option Value)} {cvs_BadEntry_init : Array Value} {cfile_BadEntry_init : Str} {ctk_BadEntry_init : Tok}
    {od_BadAnswer_init an_BadAnswer_init : Option Addr} {sl_BadAnswer_init : Array (Option Value)} {oc_BadAnswer_init kV_BadAnswer_init dc_BadAnswer_init pm_BadAnswer_init ct_BadAnswer_init : Value}
    {cc_BadAnswer_init cdr_BadAnswer_init : Addr} {ccl_BadAnswer_init cdo_BadAnswer_init : Value} {cdd_BadAnswer_init cod_BadAnswer_init : Option Addr} {ccs_BadAnswer_init cos_BadAnswer_init : Array (Option Value)} {cvs_BadAnswer_init : Array Value} {cfile_BadAnswer_init : Str} {ctk_BadAnswer_init : Tok}
    {od_BadSetting_init an_BadSetting_init : Option Addr} {sl_BadSetting_init : Array (Option Value)} {oc_BadSetting_init kV_BadSetting_init dc_BadSetting_init pm_BadSetting_init ct_BadSetting_init : Value}
    {cc_BadSetting_init cdr_BadSetting_init : Addr} {ccl_BadSetting_init cdo_BadSetting_init : Value} {cdd_BadSetting_init cod_BadSetting_init : Option Addr} {ccs_BadSetting_init cos_BadSetting_init : Array (Option Value)} {cvs_BadSetting_init : Array Value} {cfile_BadSetting_init : Str} {ctk_BadSetting_init : Tok}
    {od_BadStep_init an_BadStep_init : Option Addr} {sl_BadStep_init : Array (Option Value)} {oc_BadStep_init kV_BadStep_init dc_BadStep_init pm_BadStep_init ct_BadStep_init : Value}
    {cc_BadStep_init cdr_BadStep_init : Addr} {ccl_BadStep_init cdo_BadStep_init : Value} {cdd_BadStep_init cod_BadStep_init : Option Addr} {ccs_BadStep_init cos_BadStep_init : Array (Option Value)} {cvs_BadStep_init : Array Value} {cfile_BadStep_init : Str} {ctk_BadStep_init : Tok}
    {od_Finished_init an_Finished_init : Option Addr} {sl_Finished_init : Array (Option Value)} {oc_Finished_init kV_Finished_init dc_Finished_init pm_Finished_init ct_Finished_init : Value}
    {cc_Finished_init cdr_Finished_init : Addr} {ccl_Finished_init cdo_Finished_init : Value} {cdd_Finished_init cod_Finished_init : Option Addr} {ccs_Finished_init cos_Finished_init : Array (Option Value)} {cvs_Finished_init : Array Value} {cfile_Finished_init : Str} {ctk_Finished_init : Tok}
    {od_MustWait_init an_MustWait_init : Option Addr} {sl_MustWait_init : Array (Option Value)} {oc_MustWait_init kV_MustWait_init dc_MustWait_init pm_MustWait_init ct_MustWait_init : Value}
    {cc_MustWait_init cdr_MustWait_init : Addr} {ccl_MustWait_init cdo_MustWait_init : Value} {cdd_MustWait_init cod_MustWait_init : Option Addr} {ccs_MustWait_init cos_MustWait_init : Array (Option Value)} {cvs_MustWait_init : Array Value} {cfile_MustWait_init : Str} {ctk_MustWait_init : Tok}
    {od_TooLate_init an_TooLate_init : Option Addr} {sl_TooLate_init : Array (Option Value)} {oc_TooLate_init kV_TooLate_init dc_TooLate_init pm_TooLate_init ct_TooLate_init : Value}
    {cc_TooLate_init cdr_TooLate_init : Addr} {ccl_TooLate_init cdo_TooLate_init : Value} {cdd_TooLate_init cod_TooLate_init : Option Addr} {ccs_TooLate_init cos_TooLate_init : Array (Option Value)} {cvs_TooLate_init : Array Value} {cfile_TooLate_init : Str} {ctk_TooLate_init : Tok}
    {od_BrokenOff_init an_BrokenOff_init : Option Addr} {sl_BrokenOff_init : Array (Option Value)} {oc_BrokenOff_init kV_BrokenOff_init dc_BrokenOff_init pm_BrokenOff_init ct_BrokenOff_init : Value}
    {cc_BrokenOff_init cdr_BrokenOff_init : Addr} {ccl_BrokenOff_init cdo_BrokenOff_init : Value} {cdd_BrokenOff_init cod_BrokenOff_init : Option Addr} {ccs_BrokenOff_init cos_BrokenOff_init : Array (Option Value)} {cvs_BrokenOff_init : Array Value} {cfile_BrokenOff_init : Str} {ctk_BrokenOff_init : Tok}
    {od_Stamp_init an_Stamp_init : Option Addr} {sl_Stamp_init : Array (Option Value)} {oc_Stamp_init kV_Stamp_init dc_Stamp_init pm_Stamp_init ct_Stamp_init : Value}
    {cd_Stamp_init : Value}
    {od_Stamp_lt an_Stamp_lt : Option Addr} {sl_Stamp_lt : Array (Option Value)} {oc_Stamp_lt kV_Stamp_lt dc_Stamp_lt pm_Stamp_lt ct_Stamp_lt : Value}
    {cd_Stamp_lt : Value}
    {od_Item_init an_Item_init : Option Addr} {sl_Item_init : Array (Option Value)} {oc_Item_init kV_Item_init dc_Item_init pm_Item_init ct_Item_init : Value}
    {cd_Item_init : Value}
    {od_State_init an_State_init : Option Addr} {sl_State_init : Array (Option Value)} {oc_State_init kV_State_init dc_State_init pm_State_init ct_State_init : Value}
    {cd_State_init : Value}
    {od_Desk_init an_Desk_init : Option Addr} {sl_Desk_init : Array (Option Value)} {oc_Desk_init kV_Desk_init dc_Desk_init pm_Desk_init ct_Desk_init : Value}
    {cd_Desk_init : Value}
    {od_Desk_begin an_Desk_begin : Option Addr} {sl_Desk_begin : Array (Option Value)} {oc_Desk_begin dc_Desk_begin pm_Desk_begin ct_Desk_begin : Value}
    {cd_Desk_begin : Value}
    {KD_Desk_begin : Addr}
    {od_Desk_state_of an_Desk_state_of : Option Addr} {sl_Desk_state_of : Array (Option Value)} {oc_Desk_state_of kV_Desk_state_of dc_Desk_state_of pm_Desk_state_of ct_Desk_state_of : Value}
    {cd_Desk_state_of : Value}
    {od_Desk_settle an_Desk_settle : Option Addr} {sl_Desk_settle : Array (Option Value)} {oc_Desk_settle kV_Desk_settle dc_Desk_settle pm_Desk_settle ct_Desk_settle : Value}
    {cd_Desk_settle : Value}
    {od_Desk_take an_Desk_take : Option Addr} {sl_Desk_take : Array (Option Value)} {oc_Desk_take kV_Desk_take dc_Desk_take pm_Desk_take ct_Desk_take : Value}
    {cd_Desk_take : Value}
    {od_Desk_ask an_Desk_ask : Option Addr} {sl_Desk_ask : Array (Option Value)} {oc_Desk_ask kV_Desk_ask dc_Desk_ask pm_Desk_ask ct_Desk_ask : Value}
    {cd_Desk_ask : Value}
    {od_Reader_read an_Reader_read : Option Addr} {sl_Reader_read : Array (Option Value)} {oc_Reader_read kV_Reader_read dc_Reader_read pm_Reader_read ct_Reader_read : Value}
    {cd_Reader_read : Value}
    {od_Writer_write an_Writer_write : Option Addr} {sl_Writer_write : Array (Option Value)} {oc_Writer_write kV_Writer_write dc_Writer_write pm_Writer_write ct_Writer_write : Value}
    {cd_Writer_write : Value}
    {od_Transaction_init an_Transaction_init : Option Addr} {sl_Transaction_init : Array (Option Value)} {oc_Transaction_init kV_Transaction_init dc_Transaction_init pm_Transaction_init ct_Transaction_init : Value}
    {cd_Transaction_init : Value}
    {od_Transaction_commit an_Transaction_commit : Option Addr} {sl_Transaction_commit : Array (Option Value)} {oc_Transaction_commit kV_Transaction_commit dc_Transaction_commit pm_Transaction_commit ct_Transaction_commit : Value}
    {cd_Transaction_commit : Value}
    {od_Transaction_abort an_Transaction_abort : Option Addr} {sl_Transaction_abort : Array (Option Value)} {oc_Transaction_abort kV_Transaction_abort dc_Transaction_abort pm_Transaction_abort ct_Transaction_abort : Value}
    {cd_Transaction_abort : Value}
    {od_Book_init an_Book_init : Option Addr} {sl_Book_init : Array (Option Value)} {oc_Book_init dc_Book_init pm_Book_init ct_Book_init : Value}
    {cd_Book_init : Value}
    {KD_Book_init : Addr}
    {tq0_Book_init : Tok}
    {tq1_Book_init : Tok}
    {T_Book_init : Addr} {Tn_Book_init : Nat}
    {Tc_Book_init : Value} {Td_Book_init : Option Addr} {Ts_Book_init : Array (Option Value)}
    {od_Book_ends an_Book_ends : Option Addr} {sl_Book_ends : Array (Option Value)} {oc_Book_ends kV_Book_ends dc_Book_ends pm_Book_ends ct_Book_ends : Value}
    {cd_Book_ends : Value}
    {rr_Book_ends : List Value}
    {od_Book_keep an_Book_keep : Option Addr} {sl_Book_keep : Array (Option Value)} {oc_Book_keep kV_Book_keep dc_Book_keep pm_Book_keep ct_Book_keep : Value}
    {cd_Book_keep : Value}
    {rr_Book_keep : List Value}
    {od_Book_copy an_Book_copy : Option Addr} {sl_Book_copy : Array (Option Value)} {oc_Book_copy kV_Book_copy dc_Book_copy pm_Book_copy ct_Book_copy : Value}
    {cd_Book_copy : Value}
    {od_Book_getitem an_Book_getitem : Option Addr} {sl_Book_getitem : Array (Option Value)} {oc_Book_getitem kV_Book_getitem dc_Book_getitem pm_Book_getitem ct_Book_getitem : Value}
    {cd_Book_getitem : Value}
    {od_is_stamp an_is_stamp : Option Addr} {sl_is_stamp : Array (Option Value)} {oc_is_stamp kV_is_stamp dc_is_stamp pm_is_stamp ct_is_stamp : Value}
    {cd_is_stamp : Value}
    {T_is_stamp : Addr} {Tn_is_stamp : Nat}
    {tk0_is_stamp : Tok}
    {Tc_is_stamp : Value} {Td_is_stamp : Option Addr} {Ts_is_stamp : Array (Option Value)}
    {od_place an_place : Option Addr} {sl_place : Array (Option Value)} {oc_place kV_place dc_place pm_place ct_place : Value}
    {cd_place : Value}
    {od_first_state an_first_state : Option Addr} {sl_first_state : Array (Option Value)} {oc_first_state kV_first_state dc_first_state pm_first_state ct_first_state : Value}
    {cd_first_state : Value}
    {od_item_of an_item_of : Option Addr} {sl_item_of : Array (Option Value)} {oc_item_of kV_item_of dc_item_of pm_item_of ct_item_of : Value}
    {cd_item_of : Value}
    {od_ascending an_ascending : Option Addr} {sl_ascending : Array (Option Value)} {oc_ascending kV_ascending dc_ascending pm_ascending ct_ascending : Value}
    {cd_ascending : Value}
    {od_taken an_taken : Option Addr} {sl_taken : Array (Option Value)} {oc_taken kV_taken dc_taken pm_taken ct_taken : Value}
    {cd_taken : Value}
    {od_committed an_committed : Option Addr} {sl_committed : Array (Option Value)} {oc_committed kV_committed dc_committed pm_committed ct_committed : Value}
    {cd_committed : Value}
    {od_settled an_settled : Option Addr} {sl_settled : Array (Option Value)} {oc_settled kV_settled dc_settled pm_settled ct_settled : Value}
    {cd_settled : Value}
    {od_aborted an_aborted : Option Addr} {sl_aborted : Array (Option Value)} {oc_aborted kV_aborted dc_aborted pm_aborted ct_aborted : Value}
    {cd_aborted : Value}
    {od_without an_without : Option Addr} {sl_without : Array (Option Value)} {oc_without kV_without dc_without pm_without ct_without : Value}
    {cd_without : Value}
    {od_falling an_falling : Option Addr} {sl_falling : Array (Option Value)} {oc_falling kV_falling dc_falling pm_falling ct_falling : Value}
    {cd_falling : Value}
    {od_released an_released : Option Addr} {sl_released : Array (Option Value)} {oc_released kV_released dc_released pm_released ct_released : Value}
    {cd_released : Value}
    {od_requested an_requested : Option Addr} {sl_requested : Array (Option Value)} {oc_requested kV_requested dc_requested pm_requested ct_requested : Value}
    {cd_requested : Value}
    {od_asked an_asked : Option Addr} {sl_asked : Array (Option Value)} {oc_asked kV_asked dc_asked pm_asked ct_asked : Value}
    {cd_asked : Value}
    {od_entry_met an_entry_met : Option Addr} {sl_entry_met : Array (Option Value)} {oc_entry_met kV_entry_met dc_entry_met pm_entry_met ct_entry_met : Value}
    {cd_entry_met : Value}
    {od_fixed_answer an_fixed_answer : Option Addr} {sl_fixed_answer : Array (Option Value)} {oc_fixed_answer kV_fixed_answer dc_fixed_answer pm_fixed_answer ct_fixed_answer : Value}
    {cd_fixed_answer : Value}
    {od_older_values an_older_values : Option Addr} {sl_older_values : Array (Option Value)} {oc_older_values kV_older_values dc_older_values pm_older_values ct_older_values : Value}
    {cd_older_values : Value}
    {od_value_read an_value_read : Option Addr} {sl_value_read : Array (Option Value)} {oc_value_read kV_value_read dc_value_read pm_value_read ct_value_read : Value}
    {cd_value_read : Value}
    {od_binds an_binds : Option Addr} {sl_binds : Array (Option Value)} {oc_binds kV_binds dc_binds pm_binds ct_binds : Value}
    {cd_binds : Value}
    {od_with_bond an_with_bond : Option Addr} {sl_with_bond : Array (Option Value)} {oc_with_bond kV_with_bond dc_with_bond pm_with_bond ct_with_bond : Value}
    {cd_with_bond : Value}
    {od_with_reader an_with_reader : Option Addr} {sl_with_reader : Array (Option Value)} {oc_with_reader kV_with_reader dc_with_reader pm_with_reader ct_with_reader : Value}
    {cd_with_reader : Value}
    {od_with_item an_with_item : Option Addr} {sl_with_item : Array (Option Value)} {oc_with_item kV_with_item dc_with_item pm_with_item ct_with_item : Value}
    {cd_with_item : Value}
    {od_play an_play : Option Addr} {sl_play : Array (Option Value)} {oc_play kV_play dc_play pm_play ct_play : Value}
    {cd_play : Value}
    {od_traced an_traced : Option Addr} {sl_traced : Array (Option Value)} {oc_traced kV_traced dc_traced pm_traced ct_traced : Value}
    {cd_traced : Value}
    {od_check_run an_check_run : Option Addr} {sl_check_run : Array (Option Value)} {oc_check_run kV_check_run dc_check_run pm_check_run ct_check_run : Value}
    {cd_check_run : Value}
    {od_is_step an_is_step : Option Addr} {sl_is_step : Array (Option Value)} {oc_is_step kV_is_step dc_is_step pm_is_step ct_is_step : Value}
    {cd_is_step : Value}
    {od_is_name an_is_name : Option Addr} {sl_is_name : Array (Option Value)} {oc_is_name kV_is_name dc_is_name pm_is_name ct_is_name : Value}
    {cd_is_name : Value}
    {od_answers_at an_answers_at : Option Addr} {sl_answers_at : Array (Option Value)} {oc_answers_at kV_answers_at dc_answers_at pm_answers_at ct_answers_at : Value}
    {cd_answers_at : Value}
    {od_check_answer an_check_answer : Option Addr} {sl_check_answer : Array (Option Value)} {oc_check_answer kV_check_answer dc_check_answer pm_check_answer ct_check_answer : Value}
    {cd_check_answer : Value}
    {od_is_keep an_is_keep : Option Addr} {sl_is_keep : Array (Option Value)} {oc_is_keep kV_is_keep dc_is_keep pm_is_keep ct_is_keep : Value}
    {cd_is_keep : Value}
    {od_law_cell an_law_cell : Option Addr} {sl_law_cell : Array (Option Value)} {oc_law_cell kV_law_cell dc_law_cell pm_law_cell ct_law_cell : Value}
    {cd_law_cell : Value}
    {od_law_row an_law_row : Option Addr} {sl_law_row : Array (Option Value)} {oc_law_row kV_law_row dc_law_row pm_law_row ct_law_row : Value}
    {cd_law_row : Value}
    {od_law_entries an_law_entries : Option Addr} {sl_law_entries : Array (Option Value)} {oc_law_entries kV_law_entries dc_law_entries pm_law_entries ct_law_entries : Value}
    {cd_law_entries : Value}
    {od_law_choices an_law_choices : Option Addr} {sl_law_choices : Array (Option Value)} {oc_law_choices kV_law_choices dc_law_choices pm_law_choices ct_law_choices : Value}
    {cd_law_choices : Value}
    {od_law_table an_law_table : Option Addr} {sl_law_table : Array (Option Value)} {oc_law_table kV_law_table dc_law_table pm_law_table ct_law_table : Value}
    {cd_law_table : Value}
    {od_law_fits an_law_fits : Option Addr} {sl_law_fits : Array (Option Value)} {oc_law_fits kV_law_fits dc_law_fits pm_law_fits ct_law_fits : Value}
    {cd_law_fits : Value}
    {od_law_sound an_law_sound : Option Addr} {sl_law_sound : Array (Option Value)} {oc_law_sound kV_law_sound dc_law_sound pm_law_sound ct_law_sound : Value}
    {cd_law_sound : Value}
    {od_law_terms an_law_terms : Option Addr} {sl_law_terms : Array (Option Value)} {oc_law_terms kV_law_terms dc_law_terms pm_law_terms ct_law_terms : Value}
    {cd_law_terms : Value}
    {od_law_marks an_law_marks : Option Addr} {sl_law_marks : Array (Option Value)} {oc_law_marks kV_law_marks dc_law_marks pm_law_marks ct_law_marks : Value}
    {cd_law_marks : Value}
    {od_law_names an_law_names : Option Addr} {sl_law_names : Array (Option Value)} {oc_law_names kV_law_names dc_law_names pm_law_names ct_law_names : Value}
    {cd_law_names : Value}
    {od_law_steps an_law_steps : Option Addr} {sl_law_steps : Array (Option Value)} {oc_law_steps kV_law_steps dc_law_steps pm_law_steps ct_law_steps : Value}
    {cd_law_steps : Value}
    {od_law_one an_law_one : Option Addr} {sl_law_one : Array (Option Value)} {oc_law_one kV_law_one dc_law_one pm_law_one ct_law_one : Value}
    {cd_law_one : Value}
    {od_law_run an_law_run : Option Addr} {sl_law_run : Array (Option Value)} {oc_law_run kV_law_run dc_law_run pm_law_run ct_law_run : Value}
    {cd_law_run : Value}
    {od_law_ints an_law_ints : Option Addr} {sl_law_ints : Array (Option Value)} {oc_law_ints kV_law_ints dc_law_ints pm_law_ints ct_law_ints : Value}
    {cd_law_ints : Value}
    {od_law_asked an_law_asked : Option Addr} {sl_law_asked : Array (Option Value)} {oc_law_asked kV_law_asked dc_law_asked pm_law_asked ct_law_asked : Value}
    {cd_law_asked : Value}
    {od_law_agrees an_law_agrees : Option Addr} {sl_law_agrees : Array (Option Value)} {oc_law_agrees kV_law_agrees dc_law_agrees pm_law_agrees ct_law_agrees : Value}
    {cd_law_agrees : Value}
    {od_law an_law : Option Addr} {sl_law : Array (Option Value)} {oc_law kV_law dc_law pm_law ct_law : Value}
    {cd_law : Value}
    {tk_GREATEST : Tok}
    {tk_SIGNS : Tok}
    {tk_LONGEST_NAME : Tok}
    {u0_ENTRIES u1_ENTRIES u2_ENTRIES u3_ENTRIES u4_ENTRIES u5_ENTRIES u6_ENTRIES u7_ENTRIES u8_ENTRIES u9_ENTRIES u10_ENTRIES u11_ENTRIES u12_ENTRIES u13_ENTRIES : Tok}
    {td_ENTRIES : Option Addr} {tn_ENTRIES : Nat} {ts_ENTRIES : Array (Option Value)}
    {h0_ANSWERS : Int} {tk0_ANSWERS : Tok}
    {h1_ANSWERS : Int} {tk1_ANSWERS : Tok}
    {h2_ANSWERS : Int} {tk2_ANSWERS : Tok}
    {h3_ANSWERS : Int} {tk3_ANSWERS : Tok}
    {h4_ANSWERS : Int} {tk4_ANSWERS : Tok}
    {h5_ANSWERS : Int} {tk5_ANSWERS : Tok}
    {h6_ANSWERS : Int} {tk6_ANSWERS : Tok}
    {h7_ANSWERS : Int} {tk7_ANSWERS : Tok}
    {h8_ANSWERS : Int} {tk8_ANSWERS : Tok}
    {h9_ANSWERS : Int} {tk9_ANSWERS : Tok}
    {h10_ANSWERS : Int} {tk10_ANSWERS : Tok}
    {h11_ANSWERS : Int} {tk11_ANSWERS : Tok}
    {h12_ANSWERS : Int} {tk12_ANSWERS : Tok}
    {h13_ANSWERS : Int} {tk13_ANSWERS : Tok}
    {ep_ANSWERS : Nat}
    {u0_0_ANSWERS u1_0_ANSWERS u2_0_ANSWERS : Tok}
    {td_0_ANSWERS : Option Addr} {tn_0_ANSWERS : Nat} {ts_0_ANSWERS : Array (Option Value)}
    {u0_1_ANSWERS u1_1_ANSWERS u2_1_ANSWERS u3_1_ANSWERS u4_1_ANSWERS : Tok}
    {td_1_ANSWERS : Option Addr} {tn_1_ANSWERS : Nat} {ts_1_ANSWERS : Array (Option Value)}
    {u0_2_ANSWERS u1_2_ANSWERS u2_2_ANSWERS u3_2_ANSWERS : Tok}
    {td_2_ANSWERS : Option Addr} {tn_2_ANSWERS : Nat} {ts_2_ANSWERS : Array (Option Value)}
    {u0_3_ANSWERS u1_3_ANSWERS u2_3_ANSWERS u3_3_ANSWERS : Tok}
    {td_3_ANSWERS : Option Addr} {tn_3_ANSWERS : Nat} {ts_3_ANSWERS : Array (Option Value)}
    {u0_4_ANSWERS u1_4_ANSWERS : Tok}
    {td_4_ANSWERS : Option Addr} {tn_4_ANSWERS : Nat} {ts_4_ANSWERS : Array (Option Value)}
    {u0_5_ANSWERS u1_5_ANSWERS u2_5_ANSWERS u3_5_ANSWERS : Tok}
    {td_5_ANSWERS : Option Addr} {tn_5_ANSWERS : Nat} {ts_5_ANSWERS : Array (Option Value)}
    {u0_6_ANSWERS u1_6_ANSWERS u2_6_ANSWERS u3_6_ANSWERS : Tok}
    {td_6_ANSWERS : Option Addr} {tn_6_ANSWERS : Nat} {ts_6_ANSWERS : Array (Option Value)}
    {u0_7_ANSWERS u1_7_ANSWERS u2_7_ANSWERS u3_7_ANSWERS : Tok}
    {td_7_ANSWERS : Option Addr} {tn_7_ANSWERS : Nat} {ts_7_ANSWERS : Array (Option Value)}
    {u0_8_ANSWERS u1_8_ANSWERS : Tok}
    {td_8_ANSWERS : Option Addr} {tn_8_ANSWERS : Nat} {ts_8_ANSWERS : Array (Option Value)}
    {u0_9_ANSWERS u1_9_ANSWERS : Tok}
    {td_9_ANSWERS : Option Addr} {tn_9_ANSWERS : Nat} {ts_9_ANSWERS : Array (Option Value)}
    {u0_10_ANSWERS u1_10_ANSWERS : Tok}
    {td_10_ANSWERS : Option Addr} {tn_10_ANSWERS : Nat} {ts_10_ANSWERS : Array (Option Value)}
    {u0_11_ANSWERS u1_11_ANSWERS u2_11_ANSWERS u3_11_ANSWERS : Tok}
    {td_11_ANSWERS : Option Addr} {tn_11_ANSWERS : Nat} {ts_11_ANSWERS : Array (Option Value)}
    {u0_12_ANSWERS u1_12_ANSWERS u2_12_ANSWERS u3_12_ANSWERS : Tok}
    {td_12_ANSWERS : Option Addr} {tn_12_ANSWERS : Nat} {ts_12_ANSWERS : Array (Option Value)}
    {u0_13_ANSWERS u1_13_ANSWERS u2_13_ANSWERS u3_13_ANSWERS : Tok}
    {td_13_ANSWERS : Option Addr} {tn_13_ANSWERS : Nat} {ts_13_ANSWERS : Array (Option Value)}
    {tk_MOST_KEPT : Tok}
    (z_hn : PySem.W.specialIn K (.builtin "object.__class__") "__get__" = some (some (.builtin "getset_descriptor.__get__")))
    (z_ht : PySem.W.takesIn K (.builtin "object.__class__") = some true)
    (gc_StampError : PySem.W.nsIn K mainGlobals "StampError" = some (some (.ref c_StampError)))
    (kc_StampError : PySem.W.keepIn K (.ref c_StampError) = true)
    (gc_BadStamp : PySem.W.nsIn K mainGlobals "BadStamp" = some (some (.ref c_BadStamp)))
    (kc_BadStamp : PySem.W.keepIn K (.ref c_BadStamp) = true)
    (gc_BadEntry : PySem.W.nsIn K mainGlobals "BadEntry" = some (some (.ref c_BadEntry)))
    (kc_BadEntry : PySem.W.keepIn K (.ref c_BadEntry) = true)
    (gc_BadAnswer : PySem.W.nsIn K mainGlobals "BadAnswer" = some (some (.ref c_BadAnswer)))
    (kc_BadAnswer : PySem.W.keepIn K (.ref c_BadAnswer) = true)
    (gc_BadSetting : PySem.W.nsIn K mainGlobals "BadSetting" = some (some (.ref c_BadSetting)))
    (kc_BadSetting : PySem.W.keepIn K (.ref c_BadSetting) = true)
    (gc_BadStep : PySem.W.nsIn K mainGlobals "BadStep" = some (some (.ref c_BadStep)))
    (kc_BadStep : PySem.W.keepIn K (.ref c_BadStep) = true)
    (gc_Finished : PySem.W.nsIn K mainGlobals "Finished" = some (some (.ref c_Finished)))
    (kc_Finished : PySem.W.keepIn K (.ref c_Finished) = true)
    (gc_MustWait : PySem.W.nsIn K mainGlobals "MustWait" = some (some (.ref c_MustWait)))
    (kc_MustWait : PySem.W.keepIn K (.ref c_MustWait) = true)
    (gc_TooLate : PySem.W.nsIn K mainGlobals "TooLate" = some (some (.ref c_TooLate)))
    (kc_TooLate : PySem.W.keepIn K (.ref c_TooLate) = true)
    (gc_BrokenOff : PySem.W.nsIn K mainGlobals "BrokenOff" = some (some (.ref c_BrokenOff)))
    (kc_BrokenOff : PySem.W.keepIn K (.ref c_BrokenOff) = true)
    (gc_Stamp : PySem.W.nsIn K mainGlobals "Stamp" = some (some (.ref c_Stamp)))
    (kc_Stamp : PySem.W.keepIn K (.ref c_Stamp) = true)
    (gc_Item : PySem.W.nsIn K mainGlobals "Item" = some (some (.ref c_Item)))
    (kc_Item : PySem.W.keepIn K (.ref c_Item) = true)
    (gc_State : PySem.W.nsIn K mainGlobals "State" = some (some (.ref c_State)))
    (kc_State : PySem.W.keepIn K (.ref c_State) = true)
    (gc_Desk : PySem.W.nsIn K mainGlobals "Desk" = some (some (.ref c_Desk)))
    (kc_Desk : PySem.W.keepIn K (.ref c_Desk) = true)
    (gc_Reader : PySem.W.nsIn K mainGlobals "Reader" = some (some (.ref c_Reader)))
    (kc_Reader : PySem.W.keepIn K (.ref c_Reader) = true)
    (gc_Writer : PySem.W.nsIn K mainGlobals "Writer" = some (some (.ref c_Writer)))
    (kc_Writer : PySem.W.keepIn K (.ref c_Writer) = true)
    (gc_Transaction : PySem.W.nsIn K mainGlobals "Transaction" = some (some (.ref c_Transaction)))
    (kc_Transaction : PySem.W.keepIn K (.ref c_Transaction) = true)
    (gc_Book : PySem.W.nsIn K mainGlobals "Book" = some (some (.ref c_Book)))
    (kc_Book : PySem.W.keepIn K (.ref c_Book) = true)
    (xl_StampError : K.lookup c_StampError = some (excClassObj nm_StampError q_StampError c_StampError N_StampError bs_StampError [.type "ValueError", .type "Exception", .type "BaseException", .type "object"] true sn_StampError sub_StampError ab_StampError col_StampError dd_StampError m0_StampError m1_StampError m2_StampError m3_StampError m5_StampError "ValueError.__new__"))
    (sa_StampError : PySem.W.findIn K (.ref c_StampError) "__setattr__" = some (some (.builtin "object.__setattr__")))
    (xb_StampError : PySem.W.subIn K (.ref c_StampError) (.type "BaseException") = some true)
    (xt_StampError : PySem.W.typeIn K (.ref c_StampError) = some (.type "type"))
    (ga_StampError : PySem.W.findIn K (.ref c_StampError) "__getattribute__" = some (some (.builtin "BaseException.__getattribute__")))
    (gg_StampError : PySem.W.findIn K (.ref c_StampError) "__getattr__" = some none)
    (hd_StampError : PySem.W.hasDictIn K c_StampError = true)
    (ha_StampError : PySem.W.findIn K (.ref c_StampError) "__class__" = some (some (.builtin "object.__class__")))
    (hm_StampError : PySem.W.mroIn K c_StampError (.type "object") = some true)
    (sb_StampError_StampError : PySem.W.subIn K (.ref c_StampError) (.ref c_StampError) = some true)
    (ko_StampError_StampError : PySem.W.kitOne K (.ref c_StampError) (.ref c_StampError) = some true)
    (sb_StampError_BadStamp : PySem.W.subIn K (.ref c_StampError) (.ref c_BadStamp) = some false)
    (ko_StampError_BadStamp : PySem.W.kitOne K (.ref c_StampError) (.ref c_BadStamp) = some false)
    (sb_StampError_BadEntry : PySem.W.subIn K (.ref c_StampError) (.ref c_BadEntry) = some false)
    (ko_StampError_BadEntry : PySem.W.kitOne K (.ref c_StampError) (.ref c_BadEntry) = some false)
    (sb_StampError_BadAnswer : PySem.W.subIn K (.ref c_StampError) (.ref c_BadAnswer) = some false)
    (ko_StampError_BadAnswer : PySem.W.kitOne K (.ref c_StampError) (.ref c_BadAnswer) = some false)
    (sb_StampError_BadSetting : PySem.W.subIn K (.ref c_StampError) (.ref c_BadSetting) = some false)
    (ko_StampError_BadSetting : PySem.W.kitOne K (.ref c_StampError) (.ref c_BadSetting) = some false)
    (sb_StampError_BadStep : PySem.W.subIn K (.ref c_StampError) (.ref c_BadStep) = some false)
    (ko_StampError_BadStep : PySem.W.kitOne K (.ref c_StampError) (.ref c_BadStep) = some false)
    (sb_StampError_Finished : PySem.W.subIn K (.ref c_StampError) (.ref c_Finished) = some false)
    (ko_StampError_Finished : PySem.W.kitOne K (.ref c_StampError) (.ref c_Finished) = some false)
    (sb_StampError_MustWait : PySem.W.subIn K (.ref c_StampError) (.ref c_MustWait) = some false)
    (ko_StampError_MustWait : PySem.W.kitOne K (.ref c_StampError) (.ref c_MustWait) = some false)
    (sb_StampError_TooLate : PySem.W.subIn K (.ref c_StampError) (.ref c_TooLate) = some false)
    (ko_StampError_TooLate : PySem.W.kitOne K (.ref c_StampError) (.ref c_TooLate) = some false)
    (sb_StampError_BrokenOff : PySem.W.subIn K (.ref c_StampError) (.ref c_BrokenOff) = some false)
    (ko_StampError_BrokenOff : PySem.W.kitOne K (.ref c_StampError) (.ref c_BrokenOff) = some false)
    (kv_StampError : PySem.W.kitOne K (.ref c_StampError) (.type "ValueError") = some true)
    (xl_BadStamp : K.lookup c_BadStamp = some (excClassObj nm_BadStamp q_BadStamp c_BadStamp N_BadStamp bs_BadStamp [.ref c_StampError, .type "ValueError", .type "Exception", .type "BaseException", .type "object"] true sn_BadStamp sub_BadStamp ab_BadStamp col_BadStamp dd_BadStamp m0_BadStamp m1_BadStamp m2_BadStamp m3_BadStamp m5_BadStamp "ValueError.__new__"))
    (sa_BadStamp : PySem.W.findIn K (.ref c_BadStamp) "__setattr__" = some (some (.builtin "object.__setattr__")))
    (xb_BadStamp : PySem.W.subIn K (.ref c_BadStamp) (.type "BaseException") = some true)
    (xt_BadStamp : PySem.W.typeIn K (.ref c_BadStamp) = some (.type "type"))
    (ga_BadStamp : PySem.W.findIn K (.ref c_BadStamp) "__getattribute__" = some (some (.builtin "BaseException.__getattribute__")))
    (gg_BadStamp : PySem.W.findIn K (.ref c_BadStamp) "__getattr__" = some none)
    (hd_BadStamp : PySem.W.hasDictIn K c_BadStamp = true)
    (ha_BadStamp : PySem.W.findIn K (.ref c_BadStamp) "__class__" = some (some (.builtin "object.__class__")))
    (hm_BadStamp : PySem.W.mroIn K c_BadStamp (.type "object") = some true)
    (sb_BadStamp_StampError : PySem.W.subIn K (.ref c_BadStamp) (.ref c_StampError) = some true)
    (ko_BadStamp_StampError : PySem.W.kitOne K (.ref c_BadStamp) (.ref c_StampError) = some true)
    (sb_BadStamp_BadStamp : PySem.W.subIn K (.ref c_BadStamp) (.ref c_BadStamp) = some true)
    (ko_BadStamp_BadStamp : PySem.W.kitOne K (.ref c_BadStamp) (.ref c_BadStamp) = some true)
    (sb_BadStamp_BadEntry : PySem.W.subIn K (.ref c_BadStamp) (.ref c_BadEntry) = some false)
    (ko_BadStamp_BadEntry : PySem.W.kitOne K (.ref c_BadStamp) (.ref c_BadEntry) = some false)
    (sb_BadStamp_BadAnswer : PySem.W.subIn K (.ref c_BadStamp) (.ref c_BadAnswer) = some false)
    (ko_BadStamp_BadAnswer : PySem.W.kitOne K (.ref c_BadStamp) (.ref c_BadAnswer) = some false)
    (sb_BadStamp_BadSetting : PySem.W.subIn K (.ref c_BadStamp) (.ref c_BadSetting) = some false)
    (ko_BadStamp_BadSetting : PySem.W.kitOne K (.ref c_BadStamp) (.ref c_BadSetting) = some false)
    (sb_BadStamp_BadStep : PySem.W.subIn K (.ref c_BadStamp) (.ref c_BadStep) = some false)
    (ko_BadStamp_BadStep : PySem.W.kitOne K (.ref c_BadStamp) (.ref c_BadStep) = some false)
    (sb_BadStamp_Finished : PySem.W.subIn K (.ref c_BadStamp) (.ref c_Finished) = some false)
    (ko_BadStamp_Finished : PySem.W.kitOne K (.ref c_BadStamp) (.ref c_Finished) = some false)
    (sb_BadStamp_MustWait : PySem.W.subIn K (.ref c_BadStamp) (.ref c_MustWait) = some false)
    (ko_BadStamp_MustWait : PySem.W.kitOne K (.ref c_BadStamp) (.ref c_MustWait) = some false)
    (sb_BadStamp_TooLate : PySem.W.subIn K (.ref c_BadStamp) (.ref c_TooLate) = some false)
    (ko_BadStamp_TooLate : PySem.W.kitOne K (.ref c_BadStamp) (.ref c_TooLate) = some false)
    (sb_BadStamp_BrokenOff : PySem.W.subIn K (.ref c_BadStamp) (.ref c_BrokenOff) = some false)
    (ko_BadStamp_BrokenOff : PySem.W.kitOne K (.ref c_BadStamp) (.ref c_BrokenOff) = some false)
    (kv_BadStamp : PySem.W.kitOne K (.ref c_BadStamp) (.type "ValueError") = some true)
    (na_BadStamp_given : PySem.W.findIn K (.ref c_BadStamp) "given" = some none)
    (xl_BadEntry : K.lookup c_BadEntry = some (excClassObj nm_BadEntry q_BadEntry c_BadEntry N_BadEntry bs_BadEntry [.ref c_StampError, .type "ValueError", .type "Exception", .type "BaseException", .type "object"] true sn_BadEntry sub_BadEntry ab_BadEntry col_BadEntry dd_BadEntry m0_BadEntry m1_BadEntry m2_BadEntry m3_BadEntry m5_BadEntry "ValueError.__new__"))
    (sa_BadEntry : PySem.W.findIn K (.ref c_BadEntry) "__setattr__" = some (some (.builtin "object.__setattr__")))
    (xb_BadEntry : PySem.W.subIn K (.ref c_BadEntry) (.type "BaseException") = some true)
    (xt_BadEntry : PySem.W.typeIn K (.ref c_BadEntry) = some (.type "type"))
    (ga_BadEntry : PySem.W.findIn K (.ref c_BadEntry) "__getattribute__" = some (some (.builtin "BaseException.__getattribute__")))
    (gg_BadEntry : PySem.W.findIn K (.ref c_BadEntry) "__getattr__" = some none)
    (hd_BadEntry : PySem.W.hasDictIn K c_BadEntry = true)
    (ha_BadEntry : PySem.W.findIn K (.ref c_BadEntry) "__class__" = some (some (.builtin "object.__class__")))
    (hm_BadEntry : PySem.W.mroIn K c_BadEntry (.type "object") = some true)
    (sb_BadEntry_StampError : PySem.W.subIn K (.ref c_BadEntry) (.ref c_StampError) = some true)
    (ko_BadEntry_StampError : PySem.W.kitOne K (.ref c_BadEntry) (.ref c_StampError) = some true)
    (sb_BadEntry_BadStamp : PySem.W.subIn K (.ref c_BadEntry) (.ref c_BadStamp) = some false)
    (ko_BadEntry_BadStamp : PySem.W.kitOne K (.ref c_BadEntry) (.ref c_BadStamp) = some false)
    (sb_BadEntry_BadEntry : PySem.W.subIn K (.ref c_BadEntry) (.ref c_BadEntry) = some true)
    (ko_BadEntry_BadEntry : PySem.W.kitOne K (.ref c_BadEntry) (.ref c_BadEntry) = some true)
    (sb_BadEntry_BadAnswer : PySem.W.subIn K (.ref c_BadEntry) (.ref c_BadAnswer) = some false)
    (ko_BadEntry_BadAnswer : PySem.W.kitOne K (.ref c_BadEntry) (.ref c_BadAnswer) = some false)
    (sb_BadEntry_BadSetting : PySem.W.subIn K (.ref c_BadEntry) (.ref c_BadSetting) = some false)
    (ko_BadEntry_BadSetting : PySem.W.kitOne K (.ref c_BadEntry) (.ref c_BadSetting) = some false)
    (sb_BadEntry_BadStep : PySem.W.subIn K (.ref c_BadEntry) (.ref c_BadStep) = some false)
    (ko_BadEntry_BadStep : PySem.W.kitOne K (.ref c_BadEntry) (.ref c_BadStep) = some false)
    (sb_BadEntry_Finished : PySem.W.subIn K (.ref c_BadEntry) (.ref c_Finished) = some false)
    (ko_BadEntry_Finished : PySem.W.kitOne K (.ref c_BadEntry) (.ref c_Finished) = some false)
    (sb_BadEntry_MustWait : PySem.W.subIn K (.ref c_BadEntry) (.ref c_MustWait) = some false)
    (ko_BadEntry_MustWait : PySem.W.kitOne K (.ref c_BadEntry) (.ref c_MustWait) = some false)
    (sb_BadEntry_TooLate : PySem.W.subIn K (.ref c_BadEntry) (.ref c_TooLate) = some false)
    (ko_BadEntry_TooLate : PySem.W.kitOne K (.ref c_BadEntry) (.ref c_TooLate) = some false)
    (sb_BadEntry_BrokenOff : PySem.W.subIn K (.ref c_BadEntry) (.ref c_BrokenOff) = some false)
    (ko_BadEntry_BrokenOff : PySem.W.kitOne K (.ref c_BadEntry) (.ref c_BrokenOff) = some false)
    (kv_BadEntry : PySem.W.kitOne K (.ref c_BadEntry) (.type "ValueError") = some true)
    (na_BadEntry_entry : PySem.W.findIn K (.ref c_BadEntry) "entry" = some none)
    (xl_BadAnswer : K.lookup c_BadAnswer = some (excClassObj nm_BadAnswer q_BadAnswer c_BadAnswer N_BadAnswer bs_BadAnswer [.ref c_StampError, .type "ValueError", .type "Exception", .type "BaseException", .type "object"] true sn_BadAnswer sub_BadAnswer ab_BadAnswer col_BadAnswer dd_BadAnswer m0_BadAnswer m1_BadAnswer m2_BadAnswer m3_BadAnswer m5_BadAnswer "ValueError.__new__"))
    (sa_BadAnswer : PySem.W.findIn K (.ref c_BadAnswer) "__setattr__" = some (some (.builtin "object.__setattr__")))
    (xb_BadAnswer : PySem.W.subIn K (.ref c_BadAnswer) (.type "BaseException") = some true)
    (xt_BadAnswer : PySem.W.typeIn K (.ref c_BadAnswer) = some (.type "type"))
    (ga_BadAnswer : PySem.W.findIn K (.ref c_BadAnswer) "__getattribute__" = some (some (.builtin "BaseException.__getattribute__")))
    (gg_BadAnswer : PySem.W.findIn K (.ref c_BadAnswer) "__getattr__" = some none)
    (hd_BadAnswer : PySem.W.hasDictIn K c_BadAnswer = true)
    (ha_BadAnswer : PySem.W.findIn K (.ref c_BadAnswer) "__class__" = some (some (.builtin "object.__class__")))
    (hm_BadAnswer : PySem.W.mroIn K c_BadAnswer (.type "object") = some true)
    (sb_BadAnswer_StampError : PySem.W.subIn K (.ref c_BadAnswer) (.ref c_StampError) = some true)
    (ko_BadAnswer_StampError : PySem.W.kitOne K (.ref c_BadAnswer) (.ref c_StampError) = some true)
    (sb_BadAnswer_BadStamp : PySem.W.subIn K (.ref c_BadAnswer) (.ref c_BadStamp) = some false)
    (ko_BadAnswer_BadStamp : PySem.W.kitOne K (.ref c_BadAnswer) (.ref c_BadStamp) = some false)
    (sb_BadAnswer_BadEntry : PySem.W.subIn K (.ref c_BadAnswer) (.ref c_BadEntry) = some false)
    (ko_BadAnswer_BadEntry : PySem.W.kitOne K (.ref c_BadAnswer) (.ref c_BadEntry) = some false)
    (sb_BadAnswer_BadAnswer : PySem.W.subIn K (.ref c_BadAnswer) (.ref c_BadAnswer) = some true)
    (ko_BadAnswer_BadAnswer : PySem.W.kitOne K (.ref c_BadAnswer) (.ref c_BadAnswer) = some true)
    (sb_BadAnswer_BadSetting : PySem.W.subIn K (.ref c_BadAnswer) (.ref c_BadSetting) = some false)
    (ko_BadAnswer_BadSetting : PySem.W.kitOne K (.ref c_BadAnswer) (.ref c_BadSetting) = some false)
    (sb_BadAnswer_BadStep : PySem.W.subIn K (.ref c_BadAnswer) (.ref c_BadStep) = some false)
    (ko_BadAnswer_BadStep : PySem.W.kitOne K (.ref c_BadAnswer) (.ref c_BadStep) = some false)
    (sb_BadAnswer_Finished : PySem.W.subIn K (.ref c_BadAnswer) (.ref c_Finished) = some false)
    (ko_BadAnswer_Finished : PySem.W.kitOne K (.ref c_BadAnswer) (.ref c_Finished) = some false)
    (sb_BadAnswer_MustWait : PySem.W.subIn K (.ref c_BadAnswer) (.ref c_MustWait) = some false)
    (ko_BadAnswer_MustWait : PySem.W.kitOne K (.ref c_BadAnswer) (.ref c_MustWait) = some false)
    (sb_BadAnswer_TooLate : PySem.W.subIn K (.ref c_BadAnswer) (.ref c_TooLate) = some false)
    (ko_BadAnswer_TooLate : PySem.W.kitOne K (.ref c_BadAnswer) (.ref c_TooLate) = some false)
    (sb_BadAnswer_BrokenOff : PySem.W.subIn K (.ref c_BadAnswer) (.ref c_BrokenOff) = some false)
    (ko_BadAnswer_BrokenOff : PySem.W.kitOne K (.ref c_BadAnswer) (.ref c_BrokenOff) = some false)
    (kv_BadAnswer : PySem.W.kitOne K (.ref c_BadAnswer) (.type "ValueError") = some true)
    (na_BadAnswer_answer : PySem.W.findIn K (.ref c_BadAnswer) "answer" = some none)
    (na_BadAnswer_entry : PySem.W.findIn K (.ref c_BadAnswer) "entry" = some none)
    (xl_BadSetting : K.lookup c_BadSetting = some (excClassObj nm_BadSetting q_BadSetting c_BadSetting N_BadSetting bs_BadSetting [.ref c_StampError, .type "ValueError", .type "Exception", .type "BaseException", .type "object"] true sn_BadSetting sub_BadSetting ab_BadSetting col_BadSetting dd_BadSetting m0_BadSetting m1_BadSetting m2_BadSetting m3_BadSetting m5_BadSetting "ValueError.__new__"))
    (sa_BadSetting : PySem.W.findIn K (.ref c_BadSetting) "__setattr__" = some (some (.builtin "object.__setattr__")))
    (xb_BadSetting : PySem.W.subIn K (.ref c_BadSetting) (.type "BaseException") = some true)
    (xt_BadSetting : PySem.W.typeIn K (.ref c_BadSetting) = some (.type "type"))
    (ga_BadSetting : PySem.W.findIn K (.ref c_BadSetting) "__getattribute__" = some (some (.builtin "BaseException.__getattribute__")))
    (gg_BadSetting : PySem.W.findIn K (.ref c_BadSetting) "__getattr__" = some none)
    (hd_BadSetting : PySem.W.hasDictIn K c_BadSetting = true)
    (ha_BadSetting : PySem.W.findIn K (.ref c_BadSetting) "__class__" = some (some (.builtin "object.__class__")))
    (hm_BadSetting : PySem.W.mroIn K c_BadSetting (.type "object") = some true)
    (sb_BadSetting_StampError : PySem.W.subIn K (.ref c_BadSetting) (.ref c_StampError) = some true)
    (ko_BadSetting_StampError : PySem.W.kitOne K (.ref c_BadSetting) (.ref c_StampError) = some true)
    (sb_BadSetting_BadStamp : PySem.W.subIn K (.ref c_BadSetting) (.ref c_BadStamp) = some false)
    (ko_BadSetting_BadStamp : PySem.W.kitOne K (.ref c_BadSetting) (.ref c_BadStamp) = some false)
    (sb_BadSetting_BadEntry : PySem.W.subIn K (.ref c_BadSetting) (.ref c_BadEntry) = some false)
    (ko_BadSetting_BadEntry : PySem.W.kitOne K (.ref c_BadSetting) (.ref c_BadEntry) = some false)
    (sb_BadSetting_BadAnswer : PySem.W.subIn K (.ref c_BadSetting) (.ref c_BadAnswer) = some false)
    (ko_BadSetting_BadAnswer : PySem.W.kitOne K (.ref c_BadSetting) (.ref c_BadAnswer) = some false)
    (sb_BadSetting_BadSetting : PySem.W.subIn K (.ref c_BadSetting) (.ref c_BadSetting) = some true)
    (ko_BadSetting_BadSetting : PySem.W.kitOne K (.ref c_BadSetting) (.ref c_BadSetting) = some true)
    (sb_BadSetting_BadStep : PySem.W.subIn K (.ref c_BadSetting) (.ref c_BadStep) = some false)
    (ko_BadSetting_BadStep : PySem.W.kitOne K (.ref c_BadSetting) (.ref c_BadStep) = some false)
    (sb_BadSetting_Finished : PySem.W.subIn K (.ref c_BadSetting) (.ref c_Finished) = some false)
    (ko_BadSetting_Finished : PySem.W.kitOne K (.ref c_BadSetting) (.ref c_Finished) = some false)
    (sb_BadSetting_MustWait : PySem.W.subIn K (.ref c_BadSetting) (.ref c_MustWait) = some false)
    (ko_BadSetting_MustWait : PySem.W.kitOne K (.ref c_BadSetting) (.ref c_MustWait) = some false)
    (sb_BadSetting_TooLate : PySem.W.subIn K (.ref c_BadSetting) (.ref c_TooLate) = some false)
    (ko_BadSetting_TooLate : PySem.W.kitOne K (.ref c_BadSetting) (.ref c_TooLate) = some false)
    (sb_BadSetting_BrokenOff : PySem.W.subIn K (.ref c_BadSetting) (.ref c_BrokenOff) = some false)
    (ko_BadSetting_BrokenOff : PySem.W.kitOne K (.ref c_BadSetting) (.ref c_BrokenOff) = some false)
    (kv_BadSetting : PySem.W.kitOne K (.ref c_BadSetting) (.type "ValueError") = some true)
    (na_BadSetting_given : PySem.W.findIn K (.ref c_BadSetting) "given" = some none)
    (xl_BadStep : K.lookup c_BadStep = some (excClassObj nm_BadStep q_BadStep c_BadStep N_BadStep bs_BadStep [.ref c_StampError, .type "ValueError", .type "Exception", .type "BaseException", .type "object"] true sn_BadStep sub_BadStep ab_BadStep col_BadStep dd_BadStep m0_BadStep m1_BadStep m2_BadStep m3_BadStep m5_BadStep "ValueError.__new__"))
    (sa_BadStep : PySem.W.findIn K (.ref c_BadStep) "__setattr__" = some (some (.builtin "object.__setattr__")))
    (xb_BadStep : PySem.W.subIn K (.ref c_BadStep) (.type "BaseException") = some true)
    (xt_BadStep : PySem.W.typeIn K (.ref c_BadStep) = some (.type "type"))
    (ga_BadStep : PySem.W.findIn K (.ref c_BadStep) "__getattribute__" = some (some (.builtin "BaseException.__getattribute__")))
    (gg_BadStep : PySem.W.findIn K (.ref c_BadStep) "__getattr__" = some none)
    (hd_BadStep : PySem.W.hasDictIn K c_BadStep = true)
    (ha_BadStep : PySem.W.findIn K (.ref c_BadStep) "__class__" = some (some (.builtin "object.__class__")))
    (hm_BadStep : PySem.W.mroIn K c_BadStep (.type "object") = some true)
    (sb_BadStep_StampError : PySem.W.subIn K (.ref c_BadStep) (.ref c_StampError) = some true)
    (ko_BadStep_StampError : PySem.W.kitOne K (.ref c_BadStep) (.ref c_StampError) = some true)
    (sb_BadStep_BadStamp : PySem.W.subIn K (.ref c_BadStep) (.ref c_BadStamp) = some false)
    (ko_BadStep_BadStamp : PySem.W.kitOne K (.ref c_BadStep) (.ref c_BadStamp) = some false)
    (sb_BadStep_BadEntry : PySem.W.subIn K (.ref c_BadStep) (.ref c_BadEntry) = some false)
    (ko_BadStep_BadEntry : PySem.W.kitOne K (.ref c_BadStep) (.ref c_BadEntry) = some false)
    (sb_BadStep_BadAnswer : PySem.W.subIn K (.ref c_BadStep) (.ref c_BadAnswer) = some false)
    (ko_BadStep_BadAnswer : PySem.W.kitOne K (.ref c_BadStep) (.ref c_BadAnswer) = some false)
    (sb_BadStep_BadSetting : PySem.W.subIn K (.ref c_BadStep) (.ref c_BadSetting) = some false)
    (ko_BadStep_BadSetting : PySem.W.kitOne K (.ref c_BadStep) (.ref c_BadSetting) = some false)
    (sb_BadStep_BadStep : PySem.W.subIn K (.ref c_BadStep) (.ref c_BadStep) = some true)
    (ko_BadStep_BadStep : PySem.W.kitOne K (.ref c_BadStep) (.ref c_BadStep) = some true)
    (sb_BadStep_Finished : PySem.W.subIn K (.ref c_BadStep) (.ref c_Finished) = some false)
    (ko_BadStep_Finished : PySem.W.kitOne K (.ref c_BadStep) (.ref c_Finished) = some false)
    (sb_BadStep_MustWait : PySem.W.subIn K (.ref c_BadStep) (.ref c_MustWait) = some false)
    (ko_BadStep_MustWait : PySem.W.kitOne K (.ref c_BadStep) (.ref c_MustWait) = some false)
    (sb_BadStep_TooLate : PySem.W.subIn K (.ref c_BadStep) (.ref c_TooLate) = some false)
    (ko_BadStep_TooLate : PySem.W.kitOne K (.ref c_BadStep) (.ref c_TooLate) = some false)
    (sb_BadStep_BrokenOff : PySem.W.subIn K (.ref c_BadStep) (.ref c_BrokenOff) = some false)
    (ko_BadStep_BrokenOff : PySem.W.kitOne K (.ref c_BadStep) (.ref c_BrokenOff) = some false)
    (kv_BadStep : PySem.W.kitOne K (.ref c_BadStep) (.type "ValueError") = some true)
    (na_BadStep_index : PySem.W.findIn K (.ref c_BadStep) "index" = some none)
    (xl_Finished : K.lookup c_Finished = some (excClassObj nm_Finished q_Finished c_Finished N_Finished bs_Finished [.ref c_StampError, .type "ValueError", .type "Exception", .type "BaseException", .type "object"] true sn_Finished sub_Finished ab_Finished col_Finished dd_Finished m0_Finished m1_Finished m2_Finished m3_Finished m5_Finished "ValueError.__new__"))
    (sa_Finished : PySem.W.findIn K (.ref c_Finished) "__setattr__" = some (some (.builtin "object.__setattr__")))
    (xb_Finished : PySem.W.subIn K (.ref c_Finished) (.type "BaseException") = some true)
    (xt_Finished : PySem.W.typeIn K (.ref c_Finished) = some (.type "type"))
    (ga_Finished : PySem.W.findIn K (.ref c_Finished) "__getattribute__" = some (some (.builtin "BaseException.__getattribute__")))
    (gg_Finished : PySem.W.findIn K (.ref c_Finished) "__getattr__" = some none)
    (hd_Finished : PySem.W.hasDictIn K c_Finished = true)
    (ha_Finished : PySem.W.findIn K (.ref c_Finished) "__class__" = some (some (.builtin "object.__class__")))
    (hm_Finished : PySem.W.mroIn K c_Finished (.type "object") = some true)
    (sb_Finished_StampError : PySem.W.subIn K (.ref c_Finished) (.ref c_StampError) = some true)
    (ko_Finished_StampError : PySem.W.kitOne K (.ref c_Finished) (.ref c_StampError) = some true)
    (sb_Finished_BadStamp : PySem.W.subIn K (.ref c_Finished) (.ref c_BadStamp) = some false)
    (ko_Finished_BadStamp : PySem.W.kitOne K (.ref c_Finished) (.ref c_BadStamp) = some false)
    (sb_Finished_BadEntry : PySem.W.subIn K (.ref c_Finished) (.ref c_BadEntry) = some false)
    (ko_Finished_BadEntry : PySem.W.kitOne K (.ref c_Finished) (.ref c_BadEntry) = some false)
    (sb_Finished_BadAnswer : PySem.W.subIn K (.ref c_Finished) (.ref c_BadAnswer) = some false)
    (ko_Finished_BadAnswer : PySem.W.kitOne K (.ref c_Finished) (.ref c_BadAnswer) = some false)
    (sb_Finished_BadSetting : PySem.W.subIn K (.ref c_Finished) (.ref c_BadSetting) = some false)
    (ko_Finished_BadSetting : PySem.W.kitOne K (.ref c_Finished) (.ref c_BadSetting) = some false)
    (sb_Finished_BadStep : PySem.W.subIn K (.ref c_Finished) (.ref c_BadStep) = some false)
    (ko_Finished_BadStep : PySem.W.kitOne K (.ref c_Finished) (.ref c_BadStep) = some false)
    (sb_Finished_Finished : PySem.W.subIn K (.ref c_Finished) (.ref c_Finished) = some true)
    (ko_Finished_Finished : PySem.W.kitOne K (.ref c_Finished) (.ref c_Finished) = some true)
    (sb_Finished_MustWait : PySem.W.subIn K (.ref c_Finished) (.ref c_MustWait) = some false)
    (ko_Finished_MustWait : PySem.W.kitOne K (.ref c_Finished) (.ref c_MustWait) = some false)
    (sb_Finished_TooLate : PySem.W.subIn K (.ref c_Finished) (.ref c_TooLate) = some false)
    (ko_Finished_TooLate : PySem.W.kitOne K (.ref c_Finished) (.ref c_TooLate) = some false)
    (sb_Finished_BrokenOff : PySem.W.subIn K (.ref c_Finished) (.ref c_BrokenOff) = some false)
    (ko_Finished_BrokenOff : PySem.W.kitOne K (.ref c_Finished) (.ref c_BrokenOff) = some false)
    (kv_Finished : PySem.W.kitOne K (.ref c_Finished) (.type "ValueError") = some true)
    (na_Finished_stamp : PySem.W.findIn K (.ref c_Finished) "stamp" = some none)
    (xl_MustWait : K.lookup c_MustWait = some (excClassObj nm_MustWait q_MustWait c_MustWait N_MustWait bs_MustWait [.ref c_StampError, .type "ValueError", .type "Exception", .type "BaseException", .type "object"] true sn_MustWait sub_MustWait ab_MustWait col_MustWait dd_MustWait m0_MustWait m1_MustWait m2_MustWait m3_MustWait m5_MustWait "ValueError.__new__"))
    (sa_MustWait : PySem.W.findIn K (.ref c_MustWait) "__setattr__" = some (some (.builtin "object.__setattr__")))
    (xb_MustWait : PySem.W.subIn K (.ref c_MustWait) (.type "BaseException") = some true)
    (xt_MustWait : PySem.W.typeIn K (.ref c_MustWait) = some (.type "type"))
    (ga_MustWait : PySem.W.findIn K (.ref c_MustWait) "__getattribute__" = some (some (.builtin "BaseException.__getattribute__")))
    (gg_MustWait : PySem.W.findIn K (.ref c_MustWait) "__getattr__" = some none)
    (hd_MustWait : PySem.W.hasDictIn K c_MustWait = true)
    (ha_MustWait : PySem.W.findIn K (.ref c_MustWait) "__class__" = some (some (.builtin "object.__class__")))
    (hm_MustWait : PySem.W.mroIn K c_MustWait (.type "object") = some true)
    (sb_MustWait_StampError : PySem.W.subIn K (.ref c_MustWait) (.ref c_StampError) = some true)
    (ko_MustWait_StampError : PySem.W.kitOne K (.ref c_MustWait) (.ref c_StampError) = some true)
    (sb_MustWait_BadStamp : PySem.W.subIn K (.ref c_MustWait) (.ref c_BadStamp) = some false)
    (ko_MustWait_BadStamp : PySem.W.kitOne K (.ref c_MustWait) (.ref c_BadStamp) = some false)
    (sb_MustWait_BadEntry : PySem.W.subIn K (.ref c_MustWait) (.ref c_BadEntry) = some false)
    (ko_MustWait_BadEntry : PySem.W.kitOne K (.ref c_MustWait) (.ref c_BadEntry) = some false)
    (sb_MustWait_BadAnswer : PySem.W.subIn K (.ref c_MustWait) (.ref c_BadAnswer) = some false)
    (ko_MustWait_BadAnswer : PySem.W.kitOne K (.ref c_MustWait) (.ref c_BadAnswer) = some false)
    (sb_MustWait_BadSetting : PySem.W.subIn K (.ref c_MustWait) (.ref c_BadSetting) = some false)
    (ko_MustWait_BadSetting : PySem.W.kitOne K (.ref c_MustWait) (.ref c_BadSetting) = some false)
    (sb_MustWait_BadStep : PySem.W.subIn K (.ref c_MustWait) (.ref c_BadStep) = some false)
    (ko_MustWait_BadStep : PySem.W.kitOne K (.ref c_MustWait) (.ref c_BadStep) = some false)
    (sb_MustWait_Finished : PySem.W.subIn K (.ref c_MustWait) (.ref c_Finished) = some false)
    (ko_MustWait_Finished : PySem.W.kitOne K (.ref c_MustWait) (.ref c_Finished) = some false)
    (sb_MustWait_MustWait : PySem.W.subIn K (.ref c_MustWait) (.ref c_MustWait) = some true)
    (ko_MustWait_MustWait : PySem.W.kitOne K (.ref c_MustWait) (.ref c_MustWait) = some true)
    (sb_MustWait_TooLate : PySem.W.subIn K (.ref c_MustWait) (.ref c_TooLate) = some false)
    (ko_MustWait_TooLate : PySem.W.kitOne K (.ref c_MustWait) (.ref c_TooLate) = some false)
    (sb_MustWait_BrokenOff : PySem.W.subIn K (.ref c_MustWait) (.ref c_BrokenOff) = some false)
    (ko_MustWait_BrokenOff : PySem.W.kitOne K (.ref c_MustWait) (.ref c_BrokenOff) = some false)
    (kv_MustWait : PySem.W.kitOne K (.ref c_MustWait) (.type "ValueError") = some true)
    (na_MustWait_holders : PySem.W.findIn K (.ref c_MustWait) "holders" = some none)
    (na_MustWait_stamp : PySem.W.findIn K (.ref c_MustWait) "stamp" = some none)
    (xl_TooLate : K.lookup c_TooLate = some (excClassObj nm_TooLate q_TooLate c_TooLate N_TooLate bs_TooLate [.ref c_StampError, .type "ValueError", .type "Exception", .type "BaseException", .type "object"] true sn_TooLate sub_TooLate ab_TooLate col_TooLate dd_TooLate m0_TooLate m1_TooLate m2_TooLate m3_TooLate m5_TooLate "ValueError.__new__"))
    (sa_TooLate : PySem.W.findIn K (.ref c_TooLate) "__setattr__" = some (some (.builtin "object.__setattr__")))
    (xb_TooLate : PySem.W.subIn K (.ref c_TooLate) (.type "BaseException") = some true)
    (xt_TooLate : PySem.W.typeIn K (.ref c_TooLate) = some (.type "type"))
    (ga_TooLate : PySem.W.findIn K (.ref c_TooLate) "__getattribute__" = some (some (.builtin "BaseException.__getattribute__")))
    (gg_TooLate : PySem.W.findIn K (.ref c_TooLate) "__getattr__" = some none)
    (hd_TooLate : PySem.W.hasDictIn K c_TooLate = true)
    (ha_TooLate : PySem.W.findIn K (.ref c_TooLate) "__class__" = some (some (.builtin "object.__class__")))
    (hm_TooLate : PySem.W.mroIn K c_TooLate (.type "object") = some true)
    (sb_TooLate_StampError : PySem.W.subIn K (.ref c_TooLate) (.ref c_StampError) = some true)
    (ko_TooLate_StampError : PySem.W.kitOne K (.ref c_TooLate) (.ref c_StampError) = some true)
    (sb_TooLate_BadStamp : PySem.W.subIn K (.ref c_TooLate) (.ref c_BadStamp) = some false)
    (ko_TooLate_BadStamp : PySem.W.kitOne K (.ref c_TooLate) (.ref c_BadStamp) = some false)
    (sb_TooLate_BadEntry : PySem.W.subIn K (.ref c_TooLate) (.ref c_BadEntry) = some false)
    (ko_TooLate_BadEntry : PySem.W.kitOne K (.ref c_TooLate) (.ref c_BadEntry) = some false)
    (sb_TooLate_BadAnswer : PySem.W.subIn K (.ref c_TooLate) (.ref c_BadAnswer) = some false)
    (ko_TooLate_BadAnswer : PySem.W.kitOne K (.ref c_TooLate) (.ref c_BadAnswer) = some false)
    (sb_TooLate_BadSetting : PySem.W.subIn K (.ref c_TooLate) (.ref c_BadSetting) = some false)
    (ko_TooLate_BadSetting : PySem.W.kitOne K (.ref c_TooLate) (.ref c_BadSetting) = some false)
    (sb_TooLate_BadStep : PySem.W.subIn K (.ref c_TooLate) (.ref c_BadStep) = some false)
    (ko_TooLate_BadStep : PySem.W.kitOne K (.ref c_TooLate) (.ref c_BadStep) = some false)
    (sb_TooLate_Finished : PySem.W.subIn K (.ref c_TooLate) (.ref c_Finished) = some false)
    (ko_TooLate_Finished : PySem.W.kitOne K (.ref c_TooLate) (.ref c_Finished) = some false)
    (sb_TooLate_MustWait : PySem.W.subIn K (.ref c_TooLate) (.ref c_MustWait) = some false)
    (ko_TooLate_MustWait : PySem.W.kitOne K (.ref c_TooLate) (.ref c_MustWait) = some false)
    (sb_TooLate_TooLate : PySem.W.subIn K (.ref c_TooLate) (.ref c_TooLate) = some true)
    (ko_TooLate_TooLate : PySem.W.kitOne K (.ref c_TooLate) (.ref c_TooLate) = some true)
    (sb_TooLate_BrokenOff : PySem.W.subIn K (.ref c_TooLate) (.ref c_BrokenOff) = some false)
    (ko_TooLate_BrokenOff : PySem.W.kitOne K (.ref c_TooLate) (.ref c_BrokenOff) = some false)
    (kv_TooLate : PySem.W.kitOne K (.ref c_TooLate) (.type "ValueError") = some true)
    (na_TooLate_entry : PySem.W.findIn K (.ref c_TooLate) "entry" = some none)
    (xl_BrokenOff : K.lookup c_BrokenOff = some (excClassObj nm_BrokenOff q_BrokenOff c_BrokenOff N_BrokenOff bs_BrokenOff [.ref c_StampError, .type "ValueError", .type "Exception", .type "BaseException", .type "object"] true sn_BrokenOff sub_BrokenOff ab_BrokenOff col_BrokenOff dd_BrokenOff m0_BrokenOff m1_BrokenOff m2_BrokenOff m3_BrokenOff m5_BrokenOff "ValueError.__new__"))
    (sa_BrokenOff : PySem.W.findIn K (.ref c_BrokenOff) "__setattr__" = some (some (.builtin "object.__setattr__")))
    (xb_BrokenOff : PySem.W.subIn K (.ref c_BrokenOff) (.type "BaseException") = some true)
    (xt_BrokenOff : PySem.W.typeIn K (.ref c_BrokenOff) = some (.type "type"))
    (ga_BrokenOff : PySem.W.findIn K (.ref c_BrokenOff) "__getattribute__" = some (some (.builtin "BaseException.__getattribute__")))
    (gg_BrokenOff : PySem.W.findIn K (.ref c_BrokenOff) "__getattr__" = some none)
    (hd_BrokenOff : PySem.W.hasDictIn K c_BrokenOff = true)
    (ha_BrokenOff : PySem.W.findIn K (.ref c_BrokenOff) "__class__" = some (some (.builtin "object.__class__")))
    (hm_BrokenOff : PySem.W.mroIn K c_BrokenOff (.type "object") = some true)
    (sb_BrokenOff_StampError : PySem.W.subIn K (.ref c_BrokenOff) (.ref c_StampError) = some true)
    (ko_BrokenOff_StampError : PySem.W.kitOne K (.ref c_BrokenOff) (.ref c_StampError) = some true)
    (sb_BrokenOff_BadStamp : PySem.W.subIn K (.ref c_BrokenOff) (.ref c_BadStamp) = some false)
    (ko_BrokenOff_BadStamp : PySem.W.kitOne K (.ref c_BrokenOff) (.ref c_BadStamp) = some false)
    (sb_BrokenOff_BadEntry : PySem.W.subIn K (.ref c_BrokenOff) (.ref c_BadEntry) = some false)
    (ko_BrokenOff_BadEntry : PySem.W.kitOne K (.ref c_BrokenOff) (.ref c_BadEntry) = some false)
    (sb_BrokenOff_BadAnswer : PySem.W.subIn K (.ref c_BrokenOff) (.ref c_BadAnswer) = some false)
    (ko_BrokenOff_BadAnswer : PySem.W.kitOne K (.ref c_BrokenOff) (.ref c_BadAnswer) = some false)
    (sb_BrokenOff_BadSetting : PySem.W.subIn K (.ref c_BrokenOff) (.ref c_BadSetting) = some false)
    (ko_BrokenOff_BadSetting : PySem.W.kitOne K (.ref c_BrokenOff) (.ref c_BadSetting) = some false)
    (sb_BrokenOff_BadStep : PySem.W.subIn K (.ref c_BrokenOff) (.ref c_BadStep) = some false)
    (ko_BrokenOff_BadStep : PySem.W.kitOne K (.ref c_BrokenOff) (.ref c_BadStep) = some false)
    (sb_BrokenOff_Finished : PySem.W.subIn K (.ref c_BrokenOff) (.ref c_Finished) = some false)
    (ko_BrokenOff_Finished : PySem.W.kitOne K (.ref c_BrokenOff) (.ref c_Finished) = some false)
    (sb_BrokenOff_MustWait : PySem.W.subIn K (.ref c_BrokenOff) (.ref c_MustWait) = some false)
    (ko_BrokenOff_MustWait : PySem.W.kitOne K (.ref c_BrokenOff) (.ref c_MustWait) = some false)
    (sb_BrokenOff_TooLate : PySem.W.subIn K (.ref c_BrokenOff) (.ref c_TooLate) = some false)
    (ko_BrokenOff_TooLate : PySem.W.kitOne K (.ref c_BrokenOff) (.ref c_TooLate) = some false)
    (sb_BrokenOff_BrokenOff : PySem.W.subIn K (.ref c_BrokenOff) (.ref c_BrokenOff) = some true)
    (ko_BrokenOff_BrokenOff : PySem.W.kitOne K (.ref c_BrokenOff) (.ref c_BrokenOff) = some true)
    (kv_BrokenOff : PySem.W.kitOne K (.ref c_BrokenOff) (.type "ValueError") = some true)
    (na_BrokenOff_stamp : PySem.W.findIn K (.ref c_BrokenOff) "stamp" = some none)
    (pg_Stamp : PySem.W.plainGet K c_Stamp Str.empty = true)
    (hd_Stamp : PySem.W.hasDictIn K c_Stamp = true)
    (po_Stamp : PySem.W.plainOver K c_Stamp = true)
    (sa_Stamp : PySem.W.findIn K (.ref c_Stamp) "__setattr__" = some (some (.builtin "object.__setattr__")))
    (mk_Stamp : PySem.W.makesIn K c_Stamp = true)
    (ha_Stamp : PySem.W.findIn K (.ref c_Stamp) "__class__" = some (some (.builtin "object.__class__")))
    (hm_Stamp : PySem.W.mroIn K c_Stamp (.type "object") = some true)
    (ko_Stamp : PySem.W.kitOne K (.ref c_Stamp) (.ref c_Stamp) = some true)
    (na_Stamp_number : PySem.W.findIn K (.ref c_Stamp) "number" = some none)
    (pg_Item : PySem.W.plainGet K c_Item Str.empty = true)
    (hd_Item : PySem.W.hasDictIn K c_Item = true)
    (po_Item : PySem.W.plainOver K c_Item = true)
    (sa_Item : PySem.W.findIn K (.ref c_Item) "__setattr__" = some (some (.builtin "object.__setattr__")))
    (mk_Item : PySem.W.makesIn K c_Item = true)
    (ha_Item : PySem.W.findIn K (.ref c_Item) "__class__" = some (some (.builtin "object.__class__")))
    (hm_Item : PySem.W.mroIn K c_Item (.type "object") = some true)
    (ko_Item : PySem.W.kitOne K (.ref c_Item) (.ref c_Item) = some true)
    (na_Item_holder : PySem.W.findIn K (.ref c_Item) "holder" = some none)
    (na_Item_kept : PySem.W.findIn K (.ref c_Item) "kept" = some none)
    (na_Item_reader : PySem.W.findIn K (.ref c_Item) "reader" = some none)
    (na_Item_value : PySem.W.findIn K (.ref c_Item) "value" = some none)
    (pg_State : PySem.W.plainGet K c_State Str.empty = true)
    (hd_State : PySem.W.hasDictIn K c_State = true)
    (po_State : PySem.W.plainOver K c_State = true)
    (sa_State : PySem.W.findIn K (.ref c_State) "__setattr__" = some (some (.builtin "object.__setattr__")))
    (mk_State : PySem.W.makesIn K c_State = true)
    (ha_State : PySem.W.findIn K (.ref c_State) "__class__" = some (some (.builtin "object.__class__")))
    (hm_State : PySem.W.mroIn K c_State (.type "object") = some true)
    (ko_State : PySem.W.kitOne K (.ref c_State) (.ref c_State) = some true)
    (na_State_bonds : PySem.W.findIn K (.ref c_State) "bonds" = some none)
    (na_State_over : PySem.W.findIn K (.ref c_State) "over" = some none)
    (na_State_store : PySem.W.findIn K (.ref c_State) "store" = some none)
    (pg_Desk : PySem.W.plainGet K c_Desk Str.empty = true)
    (hd_Desk : PySem.W.hasDictIn K c_Desk = true)
    (po_Desk : PySem.W.plainOver K c_Desk = true)
    (sa_Desk : PySem.W.findIn K (.ref c_Desk) "__setattr__" = some (some (.builtin "object.__setattr__")))
    (mk_Desk : PySem.W.makesIn K c_Desk = true)
    (ha_Desk : PySem.W.findIn K (.ref c_Desk) "__class__" = some (some (.builtin "object.__class__")))
    (hm_Desk : PySem.W.mroIn K c_Desk (.type "object") = some true)
    (ko_Desk : PySem.W.kitOne K (.ref c_Desk) (.ref c_Desk) = some true)
    (na_Desk_begun : PySem.W.findIn K (.ref c_Desk) "begun" = some none)
    (na_Desk_book : PySem.W.findIn K (.ref c_Desk) "book" = some none)
    (na_Desk_greatest : PySem.W.findIn K (.ref c_Desk) "greatest" = some none)
    (na_Desk_left : PySem.W.findIn K (.ref c_Desk) "left" = some none)
    (na_Desk_state : PySem.W.findIn K (.ref c_Desk) "state" = some none)
    (pg_Reader : PySem.W.plainGet K c_Reader Str.empty = true)
    (hd_Reader : PySem.W.hasDictIn K c_Reader = true)
    (po_Reader : PySem.W.plainOver K c_Reader = true)
    (sa_Reader : PySem.W.findIn K (.ref c_Reader) "__setattr__" = some (some (.builtin "object.__setattr__")))
    (mk_Reader : PySem.W.makesIn K c_Reader = true)
    (ha_Reader : PySem.W.findIn K (.ref c_Reader) "__class__" = some (some (.builtin "object.__class__")))
    (hm_Reader : PySem.W.mroIn K c_Reader (.type "object") = some true)
    (ko_Reader : PySem.W.kitOne K (.ref c_Reader) (.ref c_Reader) = some true)
    (pg_Writer : PySem.W.plainGet K c_Writer Str.empty = true)
    (hd_Writer : PySem.W.hasDictIn K c_Writer = true)
    (po_Writer : PySem.W.plainOver K c_Writer = true)
    (sa_Writer : PySem.W.findIn K (.ref c_Writer) "__setattr__" = some (some (.builtin "object.__setattr__")))
    (mk_Writer : PySem.W.makesIn K c_Writer = true)
    (ha_Writer : PySem.W.findIn K (.ref c_Writer) "__class__" = some (some (.builtin "object.__class__")))
    (hm_Writer : PySem.W.mroIn K c_Writer (.type "object") = some true)
    (ko_Writer : PySem.W.kitOne K (.ref c_Writer) (.ref c_Writer) = some true)
    (pg_Transaction : PySem.W.plainGet K c_Transaction Str.empty = true)
    (hd_Transaction : PySem.W.hasDictIn K c_Transaction = true)
    (po_Transaction : PySem.W.plainOver K c_Transaction = true)
    (sa_Transaction : PySem.W.findIn K (.ref c_Transaction) "__setattr__" = some (some (.builtin "object.__setattr__")))
    (mk_Transaction : PySem.W.makesIn K c_Transaction = true)
    (ha_Transaction : PySem.W.findIn K (.ref c_Transaction) "__class__" = some (some (.builtin "object.__class__")))
    (hm_Transaction : PySem.W.mroIn K c_Transaction (.type "object") = some true)
    (ko_Transaction : PySem.W.kitOne K (.ref c_Transaction) (.ref c_Transaction) = some true)
    (ko_Transaction_Reader : PySem.W.kitOne K (.ref c_Transaction) (.ref c_Reader) = some true)
    (ko_Transaction_Writer : PySem.W.kitOne K (.ref c_Transaction) (.ref c_Writer) = some true)
    (na_Transaction_desk : PySem.W.findIn K (.ref c_Transaction) "desk" = some none)
    (na_Transaction_left : PySem.W.findIn K (.ref c_Transaction) "left" = some none)
    (na_Transaction_number : PySem.W.findIn K (.ref c_Transaction) "number" = some none)
    (na_Transaction_stamp : PySem.W.findIn K (.ref c_Transaction) "stamp" = some none)
    (pg_Book : PySem.W.plainGet K c_Book Str.empty = true)
    (hd_Book : PySem.W.hasDictIn K c_Book = true)
    (po_Book : PySem.W.plainOver K c_Book = true)
    (sa_Book : PySem.W.findIn K (.ref c_Book) "__setattr__" = some (some (.builtin "object.__setattr__")))
    (mk_Book : PySem.W.makesIn K c_Book = true)
    (ha_Book : PySem.W.findIn K (.ref c_Book) "__class__" = some (some (.builtin "object.__class__")))
    (hm_Book : PySem.W.mroIn K c_Book (.type "object") = some true)
    (ko_Book : PySem.W.kitOne K (.ref c_Book) (.ref c_Book) = some true)
    (na_Book__answers : PySem.W.findIn K (.ref c_Book) "_answers" = some none)
    (na_Book__ends : PySem.W.findIn K (.ref c_Book) "_ends" = some none)
    (na_Book__keep : PySem.W.findIn K (.ref c_Book) "_keep" = some none)
    (a_BadStamp_init : PySem.W.findIn K (.ref c_BadStamp) "__init__" = some (some (.ref f_BadStamp_init)))
    (l_BadStamp_init : K.lookup f_BadStamp_init = some ⟨oc_BadStamp_init, od_BadStamp_init, .func (PySem.W.fnX "__init__" "BadStamp.__init__" (defArgs s_BadStamp_init) (defBody s_BadStamp_init) (defScope s_BadStamp_init) [(("__class__" : Str), cc_BadStamp_init)] .none kV_BadStamp_init dc_BadStamp_init pm_BadStamp_init an_BadStamp_init (.ref cdr_BadStamp_init) ct_BadStamp_init), sl_BadStamp_init⟩)
    (c_BadStamp_init : PySem.W.codeIn K (.ref cdr_BadStamp_init) "BadStamp.__init__" = true)
    (cl_BadStamp_init : K.lookup cc_BadStamp_init = some ⟨ccl_BadStamp_init, cdd_BadStamp_init, .cell (some (.ref c_BadStamp)), ccs_BadStamp_init⟩)
    (cv_BadStamp_init : K.lookup cdr_BadStamp_init = some ⟨cdo_BadStamp_init, cod_BadStamp_init, .fields cvs_BadStamp_init, cos_BadStamp_init⟩)
    (cw_BadStamp_init : cvs_BadStamp_init[2]? = some (.str cfile_BadStamp_init ctk_BadStamp_init))
    (cx_BadStamp_init : ((PySem.Challenge.rw_stamprules_k16_a_desk_follows_the_run.prog.main.file : Str) == cfile_BadStamp_init) = true)
    (tp_BadStamp_init : (PySem.Challenge.rw_stamprules_k16_a_desk_follows_the_run.prog.main.scope.names.lookup ("super" : Str)).isSome = false)
    (su_BadStamp_init : PySem.W.ks_superIn K c_BadStamp c_BadStamp "__init__" = some (some (.builtin "ValueError.__init__")))
    (ve_BadStamp_init : PySem.W.subIn K (.ref c_BadStamp) (.type "ValueError") = some true)
    (md_BadStamp_init : PySem.W.mroIn K c_BadStamp (.ref c_BadStamp) = some true)
    (ti_BadStamp_init : PySem.W.typeIn K (.ref f_BadStamp_init) = some (.type "function"))
    (z_th : PySem.W.nsIn K cStatics "thirdparty.any" = some none)
    (z_su : PySem.W.nsIn K mainGlobals "super" = some none)
    (a_BadEntry_init : PySem.W.findIn K (.ref c_BadEntry) "__init__" = some (some (.ref f_BadEntry_init)))
    (l_BadEntry_init : K.lookup f_BadEntry_init = some ⟨oc_BadEntry_init, od_BadEntry_init, .func (PySem.W.fnX "__init__" "BadEntry.__init__" (defArgs s_BadEntry_init) (defBody s_BadEntry_init) (defScope s_BadEntry_init) [(("__class__" : Str), cc_BadEntry_init)] .none kV_BadEntry_init dc_BadEntry_init pm_BadEntry_init an_BadEntry_init (.ref cdr_BadEntry_init) ct_BadEntry_init), sl_BadEntry_init⟩)
    (c_BadEntry_init : PySem.W.codeIn K (.ref cdr_BadEntry_init) "BadEntry.__init__" = true)
    (cl_BadEntry_init : K.lookup cc_BadEntry_init = some ⟨ccl_BadEntry_init, cdd_BadEntry_init, .cell (some (.ref c_BadEntry)), ccs_BadEntry_init⟩)
    (cv_BadEntry_init : K.lookup cdr_BadEntry_init = some ⟨cdo_BadEntry_init, cod_BadEntry_init, .fields cvs_BadEntry_init, cos_BadEntry_init⟩)
    (cw_BadEntry_init : cvs_BadEntry_init[2]? = some (.str cfile_BadEntry_init ctk_BadEntry_init))
    (cx_BadEntry_init : ((PySem.Challenge.rw_stamprules_k16_a_desk_follows_the_run.prog.main.file : Str) == cfile_BadEntry_init) = true)
    (tp_BadEntry_init : (PySem.Challenge.rw_stamprules_k16_a_desk_follows_the_run.prog.main.scope.names.lookup ("super" : Str)).isSome = false)
    (su_BadEntry_init : PySem.W.ks_superIn K c_BadEntry c_BadEntry "__init__" = some (some (.builtin "ValueError.__init__")))
    (ve_BadEntry_init : PySem.W.subIn K (.ref c_BadEntry) (.type "ValueError") = some true)
    (md_BadEntry_init : PySem.W.mroIn K c_BadEntry (.ref c_BadEntry) = some true)
    (ti_BadEntry_init : PySem.W.typeIn K (.ref f_BadEntry_init) = some (.type "function"))
    (a_BadAnswer_init : PySem.W.findIn K (.ref c_BadAnswer) "__init__" = some (some (.ref f_BadAnswer_init)))
    (l_BadAnswer_init : K.lookup f_BadAnswer_init = some ⟨oc_BadAnswer_init, od_BadAnswer_init, .func (PySem.W.fnX "__init__" "BadAnswer.__init__" (defArgs s_BadAnswer_init) (defBody s_BadAnswer_init) (defScope s_BadAnswer_init) [(("__class__" : Str), cc_BadAnswer_init)] .none kV_BadAnswer_init dc_BadAnswer_init pm_BadAnswer_init an_BadAnswer_init (.ref cdr_BadAnswer_init) ct_BadAnswer_init), sl_BadAnswer_init⟩)
    (c_BadAnswer_init : PySem.W.codeIn K (.ref cdr_BadAnswer_init) "BadAnswer.__init__" = true)
    (cl_BadAnswer_init : K.lookup cc_BadAnswer_init = some ⟨ccl_BadAnswer_init, cdd_BadAnswer_init, .cell (some (.ref c_BadAnswer)), ccs_BadAnswer_init⟩)
    (cv_BadAnswer_init : K.lookup cdr_BadAnswer_init = some ⟨cdo_BadAnswer_init, cod_BadAnswer_init, .fields cvs_BadAnswer_init, cos_BadAnswer_init⟩)
    (cw_BadAnswer_init : cvs_BadAnswer_init[2]? = some (.str cfile_BadAnswer_init ctk_BadAnswer_init))
    (cx_BadAnswer_init : ((PySem.Challenge.rw_stamprules_k16_a_desk_follows_the_run.prog.main.file : Str) == cfile_BadAnswer_init) = true)
    (tp_BadAnswer_init : (PySem.Challenge.rw_stamprules_k16_a_desk_follows_the_run.prog.main.scope.names.lookup ("super" : Str)).isSome = false)
    (su_BadAnswer_init : PySem.W.ks_superIn K c_BadAnswer c_BadAnswer "__init__" = some (some (.builtin "ValueError.__init__")))
    (ve_BadAnswer_init : PySem.W.subIn K (.ref c_BadAnswer) (.type "ValueError") = some true)
    (md_BadAnswer_init : PySem.W.mroIn K c_BadAnswer (.ref c_BadAnswer) = some true)
    (ti_BadAnswer_init : PySem.W.typeIn K (.ref f_BadAnswer_init) = some (.type "function"))
    (a_BadSetting_init : PySem.W.findIn K (.ref c_BadSetting) "__init__" = some (some (.ref f_BadSetting_init)))
    (l_BadSetting_init : K.lookup f_BadSetting_init = some ⟨oc_BadSetting_init, od_BadSetting_init, .func (PySem.W.fnX "__init__" "BadSetting.__init__" (defArgs s_BadSetting_init) (defBody s_BadSetting_init) (defScope s_BadSetting_init) [(("__class__" : Str), cc_BadSetting_init)] .none kV_BadSetting_init dc_BadSetting_init pm_BadSetting_init an_BadSetting_init (.ref cdr_BadSetting_init) ct_BadSetting_init), sl_BadSetting_init⟩)
    (c_BadSetting_init : PySem.W.codeIn K (.ref cdr_BadSetting_init) "BadSetting.__init__" = true)
    (cl_BadSetting_init : K.lookup cc_BadSetting_init = some ⟨ccl_BadSetting_init, cdd_BadSetting_init, .cell (some (.ref c_BadSetting)), ccs_BadSetting_init⟩)
    (cv_BadSetting_init : K.lookup cdr_BadSetting_init = some ⟨cdo_BadSetting_init, cod_BadSetting_init, .fields cvs_BadSetting_init, cos_BadSetting_init⟩)
    (cw_BadSetting_init : cvs_BadSetting_init[2]? = some (.str cfile_BadSetting_init ctk_BadSetting_init))
    (cx_BadSetting_init : ((PySem.Challenge.rw_stamprules_k16_a_desk_follows_the_run.prog.main.file : Str) == cfile_BadSetting_init) = true)
    (tp_BadSetting_init : (PySem.Challenge.rw_stamprules_k16_a_desk_follows_the_run.prog.main.scope.names.lookup ("super" : Str)).isSome = false)
    (su_BadSetting_init : PySem.W.ks_superIn K c_BadSetting c_BadSetting "__init__" = some (some (.builtin "ValueError.__init__")))
    (ve_BadSetting_init : PySem.W.subIn K (.ref c_BadSetting) (.type "ValueError") = some true)
    (md_BadSetting_init : PySem.W.mroIn K c_BadSetting (.ref c_BadSetting) = some true)
    (ti_BadSetting_init : PySem.W.typeIn K (.ref f_BadSetting_init) = some (.type "function"))
    (a_BadStep_init : PySem.W.findIn K (.ref c_BadStep) "__init__" = some (some (.ref f_BadStep_init)))
    (l_BadStep_init : K.lookup f_BadStep_init = some ⟨oc_BadStep_init, od_BadStep_init, .func (PySem.W.fnX "__init__" "BadStep.__init__" (defArgs s_BadStep_init) (defBody s_BadStep_init) (defScope s_BadStep_init) [(("__class__" : Str), cc_BadStep_init)] .none kV_BadStep_init dc_BadStep_init pm_BadStep_init an_BadStep_init (.ref cdr_BadStep_init) ct_BadStep_init), sl_BadStep_init⟩)
    (c_BadStep_init : PySem.W.codeIn K (.ref cdr_BadStep_init) "BadStep.__init__" = true)
    (cl_BadStep_init : K.lookup cc_BadStep_init = some ⟨ccl_BadStep_init, cdd_BadStep_init, .cell (some (.ref c_BadStep)), ccs_BadStep_init⟩)
    (cv_BadStep_init : K.lookup cdr_BadStep_init = some ⟨cdo_BadStep_init, cod_BadStep_init, .fields cvs_BadStep_init, cos_BadStep_init⟩)
    (cw_BadStep_init : cvs_BadStep_init[2]? = some (.str cfile_BadStep_init ctk_BadStep_init))
    (cx_BadStep_init : ((PySem.Challenge.rw_stamprules_k16_a_desk_follows_the_run.prog.main.file : Str) == cfile_BadStep_init) = true)
    (tp_BadStep_init : (PySem.Challenge.rw_stamprules_k16_a_desk_follows_the_run.prog.main.scope.names.lookup ("super" : Str)).isSome = false)
    (su_BadStep_init : PySem.W.ks_superIn K c_BadStep c_BadStep "__init__" = some (some (.builtin "ValueError.__init__")))
    (ve_BadStep_init : PySem.W.subIn K (.ref c_BadStep) (.type "ValueError") = some true)
    (md_BadStep_init : PySem.W.mroIn K c_BadStep (.ref c_BadStep) = some true)
    (ti_BadStep_init : PySem.W.typeIn K (.ref f_BadStep_init) = some (.type "function"))
    (a_Finished_init : PySem.W.findIn K (.ref c_Finished) "__init__" = some (some (.ref f_Finished_init)))
    (l_Finished_init : K.lookup f_Finished_init = some ⟨oc_Finished_init, od_Finished_init, .func (PySem.W.fnX "__init__" "Finished.__init__" (defArgs s_Finished_init) (defBody s_Finished_init) (defScope s_Finished_init) [(("__class__" : Str), cc_Finished_init)] .none kV_Finished_init dc_Finished_init pm_Finished_init an_Finished_init (.ref cdr_Finished_init) ct_Finished_init), sl_Finished_init⟩)
    (c_Finished_init : PySem.W.codeIn K (.ref cdr_Finished_init) "Finished.__init__" = true)
    (cl_Finished_init : K.lookup cc_Finished_init = some ⟨ccl_Finished_init, cdd_Finished_init, .cell (some (.ref c_Finished)), ccs_Finished_init⟩)
    (cv_Finished_init : K.lookup cdr_Finished_init = some ⟨cdo_Finished_init, cod_Finished_init, .fields cvs_Finished_init, cos_Finished_init⟩)
    (cw_Finished_init : cvs_Finished_init[2]? = some (.str cfile_Finished_init ctk_Finished_init))
    (cx_Finished_init : ((PySem.Challenge.rw_stamprules_k16_a_desk_follows_the_run.prog.main.file : Str) == cfile_Finished_init) = true)
    (tp_Finished_init : (PySem.Challenge.rw_stamprules_k16_a_desk_follows_the_run.prog.main.scope.names.lookup ("super" : Str)).isSome = false)
    (su_Finished_init : PySem.W.ks_superIn K c_Finished c_Finished "__init__" = some (some (.builtin "ValueError.__init__")))
    (ve_Finished_init : PySem.W.subIn K (.ref c_Finished) (.type "ValueError") = some true)
    (md_Finished_init : PySem.W.mroIn K c_Finished (.ref c_Finished) = some true)
    (ti_Finished_init : PySem.W.typeIn K (.ref f_Finished_init) = some (.type "function"))
    (a_MustWait_init : PySem.W.findIn K (.ref c_MustWait) "__init__" = some (some (.ref f_MustWait_init)))
    (l_MustWait_init : K.lookup f_MustWait_init = some ⟨oc_MustWait_init, od_MustWait_init, .func (PySem.W.fnX "__init__" "MustWait.__init__" (defArgs s_MustWait_init) (defBody s_MustWait_init) (defScope s_MustWait_init) [(("__class__" : Str), cc_MustWait_init)] .none kV_MustWait_init dc_MustWait_init pm_MustWait_init an_MustWait_init (.ref cdr_MustWait_init) ct_MustWait_init), sl_MustWait_init⟩)
    (c_MustWait_init : PySem.W.codeIn K (.ref cdr_MustWait_init) "MustWait.__init__" = true)
    (cl_MustWait_init : K.lookup cc_MustWait_init = some ⟨ccl_MustWait_init, cdd_MustWait_init, .cell (some (.ref c_MustWait)), ccs_MustWait_init⟩)
    (cv_MustWait_init : K.lookup cdr_MustWait_init = some ⟨cdo_MustWait_init, cod_MustWait_init, .fields cvs_MustWait_init, cos_MustWait_init⟩)
    (cw_MustWait_init : cvs_MustWait_init[2]? = some (.str cfile_MustWait_init ctk_MustWait_init))
    (cx_MustWait_init : ((PySem.Challenge.rw_stamprules_k16_a_desk_follows_the_run.prog.main.file : Str) == cfile_MustWait_init) = true)
    (tp_MustWait_init : (PySem.Challenge.rw_stamprules_k16_a_desk_follows_the_run.prog.main.scope.names.lookup ("super" : Str)).isSome = false)
    (su_MustWait_init : PySem.W.ks_superIn K c_MustWait c_MustWait "__init__" = some (some (.builtin "ValueError.__init__")))
    (ve_MustWait_init : PySem.W.subIn K (.ref c_MustWait) (.type "ValueError") = some true)
    (md_MustWait_init : PySem.W.mroIn K c_MustWait (.ref c_MustWait) = some true)
    (ti_MustWait_init : PySem.W.typeIn K (.ref f_MustWait_init) = some (.type "function"))
    (a_TooLate_init : PySem.W.findIn K (.ref c_TooLate) "__init__" = some (some (.ref f_TooLate_init)))
    (l_TooLate_init : K.lookup f_TooLate_init = some ⟨oc_TooLate_init, od_TooLate_init, .func (PySem.W.fnX "__init__" "TooLate.__init__" (defArgs s_TooLate_init) (defBody s_TooLate_init) (defScope s_TooLate_init) [(("__class__" : Str), cc_TooLate_init)] .none kV_TooLate_init dc_TooLate_init pm_TooLate_init an_TooLate_init (.ref cdr_TooLate_init) ct_TooLate_init), sl_TooLate_init⟩)
    (c_TooLate_init : PySem.W.codeIn K (.ref cdr_TooLate_init) "TooLate.__init__" = true)
    (cl_TooLate_init : K.lookup cc_TooLate_init = some ⟨ccl_TooLate_init, cdd_TooLate_init, .cell (some (.ref c_TooLate)), ccs_TooLate_init⟩)
    (cv_TooLate_init : K.lookup cdr_TooLate_init = some ⟨cdo_TooLate_init, cod_TooLate_init, .fields cvs_TooLate_init, cos_TooLate_init⟩)
    (cw_TooLate_init : cvs_TooLate_init[2]? = some (.str cfile_TooLate_init ctk_TooLate_init))
    (cx_TooLate_init : ((PySem.Challenge.rw_stamprules_k16_a_desk_follows_the_run.prog.main.file : Str) == cfile_TooLate_init) = true)
    (tp_TooLate_init : (PySem.Challenge.rw_stamprules_k16_a_desk_follows_the_run.prog.main.scope.names.lookup ("super" : Str)).isSome = false)
    (su_TooLate_init : PySem.W.ks_superIn K c_TooLate c_TooLate "__init__" = some (some (.builtin "ValueError.__init__")))
    (ve_TooLate_init : PySem.W.subIn K (.ref c_TooLate) (.type "ValueError") = some true)
    (md_TooLate_init : PySem.W.mroIn K c_TooLate (.ref c_TooLate) = some true)
    (ti_TooLate_init : PySem.W.typeIn K (.ref f_TooLate_init) = some (.type "function"))
    (a_BrokenOff_init : PySem.W.findIn K (.ref c_BrokenOff) "__init__" = some (some (.ref f_BrokenOff_init)))
    (l_BrokenOff_init : K.lookup f_BrokenOff_init = some ⟨oc_BrokenOff_init, od_BrokenOff_init, .func (PySem.W.fnX "__init__" "BrokenOff.__init__" (defArgs s_BrokenOff_init) (defBody s_BrokenOff_init) (defScope s_BrokenOff_init) [(("__class__" : Str), cc_BrokenOff_init)] .none kV_BrokenOff_init dc_BrokenOff_init pm_BrokenOff_init an_BrokenOff_init (.ref cdr_BrokenOff_init) ct_BrokenOff_init), sl_BrokenOff_init⟩)
    (c_BrokenOff_init : PySem.W.codeIn K (.ref cdr_BrokenOff_init) "BrokenOff.__init__" = true)
    (cl_BrokenOff_init : K.lookup cc_BrokenOff_init = some ⟨ccl_BrokenOff_init, cdd_BrokenOff_init, .cell (some (.ref c_BrokenOff)), ccs_BrokenOff_init⟩)
    (cv_BrokenOff_init : K.lookup cdr_BrokenOff_init = some ⟨cdo_BrokenOff_init, cod_BrokenOff_init, .fields cvs_BrokenOff_init, cos_BrokenOff_init⟩)
    (cw_BrokenOff_init : cvs_BrokenOff_init[2]? = some (.str cfile_BrokenOff_init ctk_BrokenOff_init))
    (cx_BrokenOff_init : ((PySem.Challenge.rw_stamprules_k16_a_desk_follows_the_run.prog.main.file : Str) == cfile_BrokenOff_init) = true)
    (tp_BrokenOff_init : (PySem.Challenge.rw_stamprules_k16_a_desk_follows_the_run.prog.main.scope.names.lookup ("super" : Str)).isSome = false)
    (su_BrokenOff_init : PySem.W.ks_superIn K c_BrokenOff c_BrokenOff "__init__" = some (some (.builtin "ValueError.__init__")))
    (ve_BrokenOff_init : PySem.W.subIn K (.ref c_BrokenOff) (.type "ValueError") = some true)
    (md_BrokenOff_init : PySem.W.mroIn K c_BrokenOff (.ref c_BrokenOff) = some true)
    (ti_BrokenOff_init : PySem.W.typeIn K (.ref f_BrokenOff_init) = some (.type "function"))
    (a_Stamp_init : PySem.W.findIn K (.ref c_Stamp) "__init__" = some (some (.ref f_Stamp_init)))
    (l_Stamp_init : K.lookup f_Stamp_init = some ⟨oc_Stamp_init, od_Stamp_init, .func (PySem.W.fnOf "__init__" "Stamp.__init__" (defArgs s_Stamp_init) (defBody s_Stamp_init) (defScope s_Stamp_init) .none kV_Stamp_init dc_Stamp_init pm_Stamp_init an_Stamp_init cd_Stamp_init ct_Stamp_init), sl_Stamp_init⟩)
    (c_Stamp_init : PySem.W.codeIn K cd_Stamp_init "Stamp.__init__" = true)
    (k_Stamp_init : PySem.W.keepIn K (.ref f_Stamp_init) = true)
    (fn_Stamp_init : PySem.W.isFn K (.ref f_Stamp_init) = true)
    (a_Stamp_lt : PySem.W.findIn K (.ref c_Stamp) "__lt__" = some (some (.ref f_Stamp_lt)))
    (l_Stamp_lt : K.lookup f_Stamp_lt = some ⟨oc_Stamp_lt, od_Stamp_lt, .func (PySem.W.fnOf "__lt__" "Stamp.__lt__" (defArgs s_Stamp_lt) (defBody s_Stamp_lt) (defScope s_Stamp_lt) .none kV_Stamp_lt dc_Stamp_lt pm_Stamp_lt an_Stamp_lt cd_Stamp_lt ct_Stamp_lt), sl_Stamp_lt⟩)
    (c_Stamp_lt : PySem.W.codeIn K cd_Stamp_lt "Stamp.__lt__" = true)
    (k_Stamp_lt : PySem.W.keepIn K (.ref f_Stamp_lt) = true)
    (fn_Stamp_lt : PySem.W.isFn K (.ref f_Stamp_lt) = true)
    (a_Item_init : PySem.W.findIn K (.ref c_Item) "__init__" = some (some (.ref f_Item_init)))
    (l_Item_init : K.lookup f_Item_init = some ⟨oc_Item_init, od_Item_init, .func (PySem.W.fnOf "__init__" "Item.__init__" (defArgs s_Item_init) (defBody s_Item_init) (defScope s_Item_init) .none kV_Item_init dc_Item_init pm_Item_init an_Item_init cd_Item_init ct_Item_init), sl_Item_init⟩)
    (c_Item_init : PySem.W.codeIn K cd_Item_init "Item.__init__" = true)
    (k_Item_init : PySem.W.keepIn K (.ref f_Item_init) = true)
    (fn_Item_init : PySem.W.isFn K (.ref f_Item_init) = true)
    (a_State_init : PySem.W.findIn K (.ref c_State) "__init__" = some (some (.ref f_State_init)))
    (l_State_init : K.lookup f_State_init = some ⟨oc_State_init, od_State_init, .func (PySem.W.fnOf "__init__" "State.__init__" (defArgs s_State_init) (defBody s_State_init) (defScope s_State_init) .none kV_State_init dc_State_init pm_State_init an_State_init cd_State_init ct_State_init), sl_State_init⟩)
    (c_State_init : PySem.W.codeIn K cd_State_init "State.__init__" = true)
    (k_State_init : PySem.W.keepIn K (.ref f_State_init) = true)
    (fn_State_init : PySem.W.isFn K (.ref f_State_init) = true)
    (a_Desk_init : PySem.W.findIn K (.ref c_Desk) "__init__" = some (some (.ref f_Desk_init)))
    (l_Desk_init : K.lookup f_Desk_init = some ⟨oc_Desk_init, od_Desk_init, .func (PySem.W.fnOf "__init__" "Desk.__init__" (defArgs s_Desk_init) (defBody s_Desk_init) (defScope s_Desk_init) .none kV_Desk_init dc_Desk_init pm_Desk_init an_Desk_init cd_Desk_init ct_Desk_init), sl_Desk_init⟩)
    (c_Desk_init : PySem.W.codeIn K cd_Desk_init "Desk.__init__" = true)
    (k_Desk_init : PySem.W.keepIn K (.ref f_Desk_init) = true)
    (fn_Desk_init : PySem.W.isFn K (.ref f_Desk_init) = true)
    (a_Desk_begin : PySem.W.findIn K (.ref c_Desk) "begin" = some (some (.ref f_Desk_begin)))
    (l_Desk_begin : K.lookup f_Desk_begin = some ⟨oc_Desk_begin, od_Desk_begin, .func (PySem.W.fnOf "begin" "Desk.begin" (defArgs s_Desk_begin) (defBody s_Desk_begin) (defScope s_Desk_begin) .none (.ref KD_Desk_begin) dc_Desk_begin pm_Desk_begin an_Desk_begin cd_Desk_begin ct_Desk_begin), sl_Desk_begin⟩)
    (c_Desk_begin : PySem.W.codeIn K cd_Desk_begin "Desk.begin" = true)
    (k_Desk_begin : PySem.W.keepIn K (.ref f_Desk_begin) = true)
    (kw0_Desk_begin : PySem.W.nsIn K KD_Desk_begin "stamp" = some (some (.none)))
    (fn_Desk_begin : PySem.W.isFn K (.ref f_Desk_begin) = true)
    (a_Desk_state_of : PySem.W.findIn K (.ref c_Desk) "state_of" = some (some (.ref f_Desk_state_of)))
    (l_Desk_state_of : K.lookup f_Desk_state_of = some ⟨oc_Desk_state_of, od_Desk_state_of, .func (PySem.W.fnOf "state_of" "Desk.state_of" (defArgs s_Desk_state_of) (defBody s_Desk_state_of) (defScope s_Desk_state_of) .none kV_Desk_state_of dc_Desk_state_of pm_Desk_state_of an_Desk_state_of cd_Desk_state_of ct_Desk_state_of), sl_Desk_state_of⟩)
    (c_Desk_state_of : PySem.W.codeIn K cd_Desk_state_of "Desk.state_of" = true)
    (k_Desk_state_of : PySem.W.keepIn K (.ref f_Desk_state_of) = true)
    (fn_Desk_state_of : PySem.W.isFn K (.ref f_Desk_state_of) = true)
    (a_Desk_settle : PySem.W.findIn K (.ref c_Desk) "settle" = some (some (.ref f_Desk_settle)))
    (l_Desk_settle : K.lookup f_Desk_settle = some ⟨oc_Desk_settle, od_Desk_settle, .func (PySem.W.fnOf "settle" "Desk.settle" (defArgs s_Desk_settle) (defBody s_Desk_settle) (defScope s_Desk_settle) .none kV_Desk_settle dc_Desk_settle pm_Desk_settle an_Desk_settle cd_Desk_settle ct_Desk_settle), sl_Desk_settle⟩)
    (c_Desk_settle : PySem.W.codeIn K cd_Desk_settle "Desk.settle" = true)
    (k_Desk_settle : PySem.W.keepIn K (.ref f_Desk_settle) = true)
    (fn_Desk_settle : PySem.W.isFn K (.ref f_Desk_settle) = true)
    (a_Desk_take : PySem.W.findIn K (.ref c_Desk) "take" = some (some (.ref f_Desk_take)))
    (l_Desk_take : K.lookup f_Desk_take = some ⟨oc_Desk_take, od_Desk_take, .func (PySem.W.fnOf "take" "Desk.take" (defArgs s_Desk_take) (defBody s_Desk_take) (defScope s_Desk_take) .none kV_Desk_take dc_Desk_take pm_Desk_take an_Desk_take cd_Desk_take ct_Desk_take), sl_Desk_take⟩)
    (c_Desk_take : PySem.W.codeIn K cd_Desk_take "Desk.take" = true)
    (k_Desk_take : PySem.W.keepIn K (.ref f_Desk_take) = true)
    (fn_Desk_take : PySem.W.isFn K (.ref f_Desk_take) = true)
    (a_Desk_ask : PySem.W.findIn K (.ref c_Desk) "ask" = some (some (.ref f_Desk_ask)))
    (l_Desk_ask : K.lookup f_Desk_ask = some ⟨oc_Desk_ask, od_Desk_ask, .func (PySem.W.fnOf "ask" "Desk.ask" (defArgs s_Desk_ask) (defBody s_Desk_ask) (defScope s_Desk_ask) .none kV_Desk_ask dc_Desk_ask pm_Desk_ask an_Desk_ask cd_Desk_ask ct_Desk_ask), sl_Desk_ask⟩)
    (c_Desk_ask : PySem.W.codeIn K cd_Desk_ask "Desk.ask" = true)
    (k_Desk_ask : PySem.W.keepIn K (.ref f_Desk_ask) = true)
    (fn_Desk_ask : PySem.W.isFn K (.ref f_Desk_ask) = true)
    (a_Reader_read : PySem.W.findIn K (.ref c_Reader) "read" = some (some (.ref f_Reader_read)))
    (l_Reader_read : K.lookup f_Reader_read = some ⟨oc_Reader_read, od_Reader_read, .func (PySem.W.fnOf "read" "Reader.read" (defArgs s_Reader_read) (defBody s_Reader_read) (defScope s_Reader_read) .none kV_Reader_read dc_Reader_read pm_Reader_read an_Reader_read cd_Reader_read ct_Reader_read), sl_Reader_read⟩)
    (c_Reader_read : PySem.W.codeIn K cd_Reader_read "Reader.read" = true)
    (k_Reader_read : PySem.W.keepIn K (.ref f_Reader_read) = true)
    (fn_Reader_read : PySem.W.isFn K (.ref f_Reader_read) = true)
    (ai_Transaction_read : PySem.W.findIn K (.ref c_Transaction) "read" = some (some (.ref f_Reader_read)))
    (a_Writer_write : PySem.W.findIn K (.ref c_Writer) "write" = some (some (.ref f_Writer_write)))
    (l_Writer_write : K.lookup f_Writer_write = some ⟨oc_Writer_write, od_Writer_write, .func (PySem.W.fnOf "write" "Writer.write" (defArgs s_Writer_write) (defBody s_Writer_write) (defScope s_Writer_write) .none kV_Writer_write dc_Writer_write pm_Writer_write an_Writer_write cd_Writer_write ct_Writer_write), sl_Writer_write⟩)
    (c_Writer_write : PySem.W.codeIn K cd_Writer_write "Writer.write" = true)
    (k_Writer_write : PySem.W.keepIn K (.ref f_Writer_write) = true)
    (fn_Writer_write : PySem.W.isFn K (.ref f_Writer_write) = true)
    (ai_Transaction_write : PySem.W.findIn K (.ref c_Transaction) "write" = some (some (.ref f_Writer_write)))
    (a_Transaction_init : PySem.W.findIn K (.ref c_Transaction) "__init__" = some (some (.ref f_Transaction_init)))
    (l_Transaction_init : K.lookup f_Transaction_init = some ⟨oc_Transaction_init, od_Transaction_init, .func (PySem.W.fnOf "__init__" "Transaction.__init__" (defArgs s_Transaction_init) (defBody s_Transaction_init) (defScope s_Transaction_init) .none kV_Transaction_init dc_Transaction_init pm_Transaction_init an_Transaction_init cd_Transaction_init ct_Transaction_init), sl_Transaction_init⟩)
    (c_Transaction_init : PySem.W.codeIn K cd_Transaction_init "Transaction.__init__" = true)
    (k_Transaction_init : PySem.W.keepIn K (.ref f_Transaction_init) = true)
    (fn_Transaction_init : PySem.W.isFn K (.ref f_Transaction_init) = true)
    (a_Transaction_commit : PySem.W.findIn K (.ref c_Transaction) "commit" = some (some (.ref f_Transaction_commit)))
    (l_Transaction_commit : K.lookup f_Transaction_commit = some ⟨oc_Transaction_commit, od_Transaction_commit, .func (PySem.W.fnOf "commit" "Transaction.commit" (defArgs s_Transaction_commit) (defBody s_Transaction_commit) (defScope s_Transaction_commit) .none kV_Transaction_commit dc_Transaction_commit pm_Transaction_commit an_Transaction_commit cd_Transaction_commit ct_Transaction_commit), sl_Transaction_commit⟩)
    (c_Transaction_commit : PySem.W.codeIn K cd_Transaction_commit "Transaction.commit" = true)
    (k_Transaction_commit : PySem.W.keepIn K (.ref f_Transaction_commit) = true)
    (fn_Transaction_commit : PySem.W.isFn K (.ref f_Transaction_commit) = true)
    (a_Transaction_abort : PySem.W.findIn K (.ref c_Transaction) "abort" = some (some (.ref f_Transaction_abort)))
    (l_Transaction_abort : K.lookup f_Transaction_abort = some ⟨oc_Transaction_abort, od_Transaction_abort, .func (PySem.W.fnOf "abort" "Transaction.abort" (defArgs s_Transaction_abort) (defBody s_Transaction_abort) (defScope s_Transaction_abort) .none kV_Transaction_abort dc_Transaction_abort pm_Transaction_abort an_Transaction_abort cd_Transaction_abort ct_Transaction_abort), sl_Transaction_abort⟩)
    (c_Transaction_abort : PySem.W.codeIn K cd_Transaction_abort "Transaction.abort" = true)
    (k_Transaction_abort : PySem.W.keepIn K (.ref f_Transaction_abort) = true)
    (fn_Transaction_abort : PySem.W.isFn K (.ref f_Transaction_abort) = true)
    (a_Book_init : PySem.W.findIn K (.ref c_Book) "__init__" = some (some (.ref f_Book_init)))
    (l_Book_init : K.lookup f_Book_init = some ⟨oc_Book_init, od_Book_init, .func (PySem.W.fnOf "__init__" "Book.__init__" (defArgs s_Book_init) (defBody s_Book_init) (defScope s_Book_init) (.ref T_Book_init) (.ref KD_Book_init) dc_Book_init pm_Book_init an_Book_init cd_Book_init ct_Book_init), sl_Book_init⟩)
    (c_Book_init : PySem.W.codeIn K cd_Book_init "Book.__init__" = true)
    (k_Book_init : PySem.W.keepIn K (.ref f_Book_init) = true)
    (kw0_Book_init : PySem.W.nsIn K KD_Book_init "ends" = some (some (.str "now" tq0_Book_init)))
    (kw1_Book_init : PySem.W.nsIn K KD_Book_init "keep" = some (some (.int 1 tq1_Book_init)))
    (T1_Book_init : K.lookup T_Book_init = some ⟨Tc_Book_init, Td_Book_init, .seq #[.none] Tn_Book_init, Ts_Book_init⟩)
    (fn_Book_init : PySem.W.isFn K (.ref f_Book_init) = true)
    (a_Book_ends : PySem.W.findIn K (.ref c_Book) "ends" = some (some (.ref pr_Book_ends)))
    (pg_Book_ends : PySem.W.specialIn K (.ref pr_Book_ends) "__get__" = some (some (.builtin "property.__get__")))
    (pt_Book_ends : PySem.W.takesIn K (.ref pr_Book_ends) = some true)
    (pc_Book_ends : PySem.W.recIn K pr_Book_ends "property" = some (.ref f_Book_ends :: rr_Book_ends))
    (l_Book_ends : K.lookup f_Book_ends = some ⟨oc_Book_ends, od_Book_ends, .func (PySem.W.fnOf "ends" "Book.ends" (defArgs s_Book_ends) (defBody s_Book_ends) (defScope s_Book_ends) .none kV_Book_ends dc_Book_ends pm_Book_ends an_Book_ends cd_Book_ends ct_Book_ends), sl_Book_ends⟩)
    (c_Book_ends : PySem.W.codeIn K cd_Book_ends "Book.ends" = true)
    (k_Book_ends : PySem.W.keepIn K (.ref f_Book_ends) = true)
    (a_Book_keep : PySem.W.findIn K (.ref c_Book) "keep" = some (some (.ref pr_Book_keep)))
    (pg_Book_keep : PySem.W.specialIn K (.ref pr_Book_keep) "__get__" = some (some (.builtin "property.__get__")))
    (pt_Book_keep : PySem.W.takesIn K (.ref pr_Book_keep) = some true)
    (pc_Book_keep : PySem.W.recIn K pr_Book_keep "property" = some (.ref f_Book_keep :: rr_Book_keep))
    (l_Book_keep : K.lookup f_Book_keep = some ⟨oc_Book_keep, od_Book_keep, .func (PySem.W.fnOf "keep" "Book.keep" (defArgs s_Book_keep) (defBody s_Book_keep) (defScope s_Book_keep) .none kV_Book_keep dc_Book_keep pm_Book_keep an_Book_keep cd_Book_keep ct_Book_keep), sl_Book_keep⟩)
    (c_Book_keep : PySem.W.codeIn K cd_Book_keep "Book.keep" = true)
    (k_Book_keep : PySem.W.keepIn K (.ref f_Book_keep) = true)
    (a_Book_copy : PySem.W.findIn K (.ref c_Book) "copy" = some (some (.ref f_Book_copy)))
    (l_Book_copy : K.lookup f_Book_copy = some ⟨oc_Book_copy, od_Book_copy, .func (PySem.W.fnOf "copy" "Book.copy" (defArgs s_Book_copy) (defBody s_Book_copy) (defScope s_Book_copy) .none kV_Book_copy dc_Book_copy pm_Book_copy an_Book_copy cd_Book_copy ct_Book_copy), sl_Book_copy⟩)
    (c_Book_copy : PySem.W.codeIn K cd_Book_copy "Book.copy" = true)
    (k_Book_copy : PySem.W.keepIn K (.ref f_Book_copy) = true)
    (fn_Book_copy : PySem.W.isFn K (.ref f_Book_copy) = true)
    (a_Book_getitem : PySem.W.findIn K (.ref c_Book) "__getitem__" = some (some (.ref f_Book_getitem)))
    (l_Book_getitem : K.lookup f_Book_getitem = some ⟨oc_Book_getitem, od_Book_getitem, .func (PySem.W.fnOf "__getitem__" "Book.__getitem__" (defArgs s_Book_getitem) (defBody s_Book_getitem) (defScope s_Book_getitem) .none kV_Book_getitem dc_Book_getitem pm_Book_getitem an_Book_getitem cd_Book_getitem ct_Book_getitem), sl_Book_getitem⟩)
    (c_Book_getitem : PySem.W.codeIn K cd_Book_getitem "Book.__getitem__" = true)
    (k_Book_getitem : PySem.W.keepIn K (.ref f_Book_getitem) = true)
    (fn_Book_getitem : PySem.W.isFn K (.ref f_Book_getitem) = true)
    (nd_Book : PySem.W.mroIn K c_Book (.type "collections.deque") = some false)
    (fi_Book_getitem : PySem.W.fnIn K f_Book_getitem = true)
    (a_is_stamp : PySem.W.nsIn K mainGlobals "is_stamp" = some (some (.ref f_is_stamp)))
    (l_is_stamp : K.lookup f_is_stamp = some ⟨oc_is_stamp, od_is_stamp, .func (PySem.W.fnOf "is_stamp" "is_stamp" (defArgs s_is_stamp) (defBody s_is_stamp) (defScope s_is_stamp) (.ref T_is_stamp) kV_is_stamp dc_is_stamp pm_is_stamp an_is_stamp cd_is_stamp ct_is_stamp), sl_is_stamp⟩)
    (c_is_stamp : PySem.W.codeIn K cd_is_stamp "is_stamp" = true)
    (k_is_stamp : PySem.W.keepIn K (.ref f_is_stamp) = true)
    (T1_is_stamp : K.lookup T_is_stamp = some ⟨Tc_is_stamp, Td_is_stamp, .seq #[.int 0 tk0_is_stamp] Tn_is_stamp, Ts_is_stamp⟩)
    (a_place : PySem.W.nsIn K mainGlobals "place" = some (some (.ref f_place)))
    (l_place : K.lookup f_place = some ⟨oc_place, od_place, .func (PySem.W.fnOf "place" "place" (defArgs s_place) (defBody s_place) (defScope s_place) .none kV_place dc_place pm_place an_place cd_place ct_place), sl_place⟩)
    (c_place : PySem.W.codeIn K cd_place "place" = true)
    (k_place : PySem.W.keepIn K (.ref f_place) = true)
    (a_first_state : PySem.W.nsIn K mainGlobals "first_state" = some (some (.ref f_first_state)))
    (l_first_state : K.lookup f_first_state = some ⟨oc_first_state, od_first_state, .func (PySem.W.fnOf "first_state" "first_state" (defArgs s_first_state) (defBody s_first_state) (defScope s_first_state) .none kV_first_state dc_first_state pm_first_state an_first_state cd_first_state ct_first_state), sl_first_state⟩)
    (c_first_state : PySem.W.codeIn K cd_first_state "first_state" = true)
    (k_first_state : PySem.W.keepIn K (.ref f_first_state) = true)
    (a_item_of : PySem.W.nsIn K mainGlobals "item_of" = some (some (.ref f_item_of)))
    (l_item_of : K.lookup f_item_of = some ⟨oc_item_of, od_item_of, .func (PySem.W.fnOf "item_of" "item_of" (defArgs s_item_of) (defBody s_item_of) (defScope s_item_of) .none kV_item_of dc_item_of pm_item_of an_item_of cd_item_of ct_item_of), sl_item_of⟩)
    (c_item_of : PySem.W.codeIn K cd_item_of "item_of" = true)
    (k_item_of : PySem.W.keepIn K (.ref f_item_of) = true)
    (a_ascending : PySem.W.nsIn K mainGlobals "ascending" = some (some (.ref f_ascending)))
    (l_ascending : K.lookup f_ascending = some ⟨oc_ascending, od_ascending, .func (PySem.W.fnOf "ascending" "ascending" (defArgs s_ascending) (defBody s_ascending) (defScope s_ascending) .none kV_ascending dc_ascending pm_ascending an_ascending cd_ascending ct_ascending), sl_ascending⟩)
    (c_ascending : PySem.W.codeIn K cd_ascending "ascending" = true)
    (k_ascending : PySem.W.keepIn K (.ref f_ascending) = true)
    (a_taken : PySem.W.nsIn K mainGlobals "taken" = some (some (.ref f_taken)))
    (l_taken : K.lookup f_taken = some ⟨oc_taken, od_taken, .func (PySem.W.fnOf "taken" "taken" (defArgs s_taken) (defBody s_taken) (defScope s_taken) .none kV_taken dc_taken pm_taken an_taken cd_taken ct_taken), sl_taken⟩)
    (c_taken : PySem.W.codeIn K cd_taken "taken" = true)
    (k_taken : PySem.W.keepIn K (.ref f_taken) = true)
    (a_committed : PySem.W.nsIn K mainGlobals "committed" = some (some (.ref f_committed)))
    (l_committed : K.lookup f_committed = some ⟨oc_committed, od_committed, .func (PySem.W.fnOf "committed" "committed" (defArgs s_committed) (defBody s_committed) (defScope s_committed) .none kV_committed dc_committed pm_committed an_committed cd_committed ct_committed), sl_committed⟩)
    (c_committed : PySem.W.codeIn K cd_committed "committed" = true)
    (k_committed : PySem.W.keepIn K (.ref f_committed) = true)
    (a_settled : PySem.W.nsIn K mainGlobals "settled" = some (some (.ref f_settled)))
    (l_settled : K.lookup f_settled = some ⟨oc_settled, od_settled, .func (PySem.W.fnOf "settled" "settled" (defArgs s_settled) (defBody s_settled) (defScope s_settled) .none kV_settled dc_settled pm_settled an_settled cd_settled ct_settled), sl_settled⟩)
    (c_settled : PySem.W.codeIn K cd_settled "settled" = true)
    (k_settled : PySem.W.keepIn K (.ref f_settled) = true)
    (a_aborted : PySem.W.nsIn K mainGlobals "aborted" = some (some (.ref f_aborted)))
    (l_aborted : K.lookup f_aborted = some ⟨oc_aborted, od_aborted, .func (PySem.W.fnOf "aborted" "aborted" (defArgs s_aborted) (defBody s_aborted) (defScope s_aborted) .none kV_aborted dc_aborted pm_aborted an_aborted cd_aborted ct_aborted), sl_aborted⟩)
    (c_aborted : PySem.W.codeIn K cd_aborted "aborted" = true)
    (k_aborted : PySem.W.keepIn K (.ref f_aborted) = true)
    (a_without : PySem.W.nsIn K mainGlobals "without" = some (some (.ref f_without)))
    (l_without : K.lookup f_without = some ⟨oc_without, od_without, .func (PySem.W.fnOf "without" "without" (defArgs s_without) (defBody s_without) (defScope s_without) .none kV_without dc_without pm_without an_without cd_without ct_without), sl_without⟩)
    (c_without : PySem.W.codeIn K cd_without "without" = true)
    (k_without : PySem.W.keepIn K (.ref f_without) = true)
    (a_falling : PySem.W.nsIn K mainGlobals "falling" = some (some (.ref f_falling)))
    (l_falling : K.lookup f_falling = some ⟨oc_falling, od_falling, .func (PySem.W.fnOf "falling" "falling" (defArgs s_falling) (defBody s_falling) (defScope s_falling) .none kV_falling dc_falling pm_falling an_falling cd_falling ct_falling), sl_falling⟩)
    (c_falling : PySem.W.codeIn K cd_falling "falling" = true)
    (k_falling : PySem.W.keepIn K (.ref f_falling) = true)
    (a_released : PySem.W.nsIn K mainGlobals "released" = some (some (.ref f_released)))
    (l_released : K.lookup f_released = some ⟨oc_released, od_released, .func (PySem.W.fnOf "released" "released" (defArgs s_released) (defBody s_released) (defScope s_released) .none kV_released dc_released pm_released an_released cd_released ct_released), sl_released⟩)
    (c_released : PySem.W.codeIn K cd_released "released" = true)
    (k_released : PySem.W.keepIn K (.ref f_released) = true)
    (a_requested : PySem.W.nsIn K mainGlobals "requested" = some (some (.ref f_requested)))
    (l_requested : K.lookup f_requested = some ⟨oc_requested, od_requested, .func (PySem.W.fnOf "requested" "requested" (defArgs s_requested) (defBody s_requested) (defScope s_requested) .none kV_requested dc_requested pm_requested an_requested cd_requested ct_requested), sl_requested⟩)
    (c_requested : PySem.W.codeIn K cd_requested "requested" = true)
    (k_requested : PySem.W.keepIn K (.ref f_requested) = true)
    (a_asked : PySem.W.nsIn K mainGlobals "asked" = some (some (.ref f_asked)))
    (l_asked : K.lookup f_asked = some ⟨oc_asked, od_asked, .func (PySem.W.fnOf "asked" "asked" (defArgs s_asked) (defBody s_asked) (defScope s_asked) .none kV_asked dc_asked pm_asked an_asked cd_asked ct_asked), sl_asked⟩)
    (c_asked : PySem.W.codeIn K cd_asked "asked" = true)
    (k_asked : PySem.W.keepIn K (.ref f_asked) = true)
    (a_entry_met : PySem.W.nsIn K mainGlobals "entry_met" = some (some (.ref f_entry_met)))
    (l_entry_met : K.lookup f_entry_met = some ⟨oc_entry_met, od_entry_met, .func (PySem.W.fnOf "entry_met" "entry_met" (defArgs s_entry_met) (defBody s_entry_met) (defScope s_entry_met) .none kV_entry_met dc_entry_met pm_entry_met an_entry_met cd_entry_met ct_entry_met), sl_entry_met⟩)
    (c_entry_met : PySem.W.codeIn K cd_entry_met "entry_met" = true)
    (k_entry_met : PySem.W.keepIn K (.ref f_entry_met) = true)
    (a_fixed_answer : PySem.W.nsIn K mainGlobals "fixed_answer" = some (some (.ref f_fixed_answer)))
    (l_fixed_answer : K.lookup f_fixed_answer = some ⟨oc_fixed_answer, od_fixed_answer, .func (PySem.W.fnOf "fixed_answer" "fixed_answer" (defArgs s_fixed_answer) (defBody s_fixed_answer) (defScope s_fixed_answer) .none kV_fixed_answer dc_fixed_answer pm_fixed_answer an_fixed_answer cd_fixed_answer ct_fixed_answer), sl_fixed_answer⟩)
    (c_fixed_answer : PySem.W.codeIn K cd_fixed_answer "fixed_answer" = true)
    (k_fixed_answer : PySem.W.keepIn K (.ref f_fixed_answer) = true)
    (a_older_values : PySem.W.nsIn K mainGlobals "older_values" = some (some (.ref f_older_values)))
    (l_older_values : K.lookup f_older_values = some ⟨oc_older_values, od_older_values, .func (PySem.W.fnOf "older_values" "older_values" (defArgs s_older_values) (defBody s_older_values) (defScope s_older_values) .none kV_older_values dc_older_values pm_older_values an_older_values cd_older_values ct_older_values), sl_older_values⟩)
    (c_older_values : PySem.W.codeIn K cd_older_values "older_values" = true)
    (k_older_values : PySem.W.keepIn K (.ref f_older_values) = true)
    (a_value_read : PySem.W.nsIn K mainGlobals "value_read" = some (some (.ref f_value_read)))
    (l_value_read : K.lookup f_value_read = some ⟨oc_value_read, od_value_read, .func (PySem.W.fnOf "value_read" "value_read" (defArgs s_value_read) (defBody s_value_read) (defScope s_value_read) .none kV_value_read dc_value_read pm_value_read an_value_read cd_value_read ct_value_read), sl_value_read⟩)
    (c_value_read : PySem.W.codeIn K cd_value_read "value_read" = true)
    (k_value_read : PySem.W.keepIn K (.ref f_value_read) = true)
    (a_binds : PySem.W.nsIn K mainGlobals "binds" = some (some (.ref f_binds)))
    (l_binds : K.lookup f_binds = some ⟨oc_binds, od_binds, .func (PySem.W.fnOf "binds" "binds" (defArgs s_binds) (defBody s_binds) (defScope s_binds) .none kV_binds dc_binds pm_binds an_binds cd_binds ct_binds), sl_binds⟩)
    (c_binds : PySem.W.codeIn K cd_binds "binds" = true)
    (k_binds : PySem.W.keepIn K (.ref f_binds) = true)
    (a_with_bond : PySem.W.nsIn K mainGlobals "with_bond" = some (some (.ref f_with_bond)))
    (l_with_bond : K.lookup f_with_bond = some ⟨oc_with_bond, od_with_bond, .func (PySem.W.fnOf "with_bond" "with_bond" (defArgs s_with_bond) (defBody s_with_bond) (defScope s_with_bond) .none kV_with_bond dc_with_bond pm_with_bond an_with_bond cd_with_bond ct_with_bond), sl_with_bond⟩)
    (c_with_bond : PySem.W.codeIn K cd_with_bond "with_bond" = true)
    (k_with_bond : PySem.W.keepIn K (.ref f_with_bond) = true)
    (a_with_reader : PySem.W.nsIn K mainGlobals "with_reader" = some (some (.ref f_with_reader)))
    (l_with_reader : K.lookup f_with_reader = some ⟨oc_with_reader, od_with_reader, .func (PySem.W.fnOf "with_reader" "with_reader" (defArgs s_with_reader) (defBody s_with_reader) (defScope s_with_reader) .none kV_with_reader dc_with_reader pm_with_reader an_with_reader cd_with_reader ct_with_reader), sl_with_reader⟩)
    (c_with_reader : PySem.W.codeIn K cd_with_reader "with_reader" = true)
    (k_with_reader : PySem.W.keepIn K (.ref f_with_reader) = true)
    (a_with_item : PySem.W.nsIn K mainGlobals "with_item" = some (some (.ref f_with_item)))
    (l_with_item : K.lookup f_with_item = some ⟨oc_with_item, od_with_item, .func (PySem.W.fnOf "with_item" "with_item" (defArgs s_with_item) (defBody s_with_item) (defScope s_with_item) .none kV_with_item dc_with_item pm_with_item an_with_item cd_with_item ct_with_item), sl_with_item⟩)
    (c_with_item : PySem.W.codeIn K cd_with_item "with_item" = true)
    (k_with_item : PySem.W.keepIn K (.ref f_with_item) = true)
    (a_play : PySem.W.nsIn K mainGlobals "play" = some (some (.ref f_play)))
    (l_play : K.lookup f_play = some ⟨oc_play, od_play, .func (PySem.W.fnOf "play" "play" (defArgs s_play) (defBody s_play) (defScope s_play) .none kV_play dc_play pm_play an_play cd_play ct_play), sl_play⟩)
    (c_play : PySem.W.codeIn K cd_play "play" = true)
    (k_play : PySem.W.keepIn K (.ref f_play) = true)
    (a_traced : PySem.W.nsIn K mainGlobals "traced" = some (some (.ref f_traced)))
    (l_traced : K.lookup f_traced = some ⟨oc_traced, od_traced, .func (PySem.W.fnOf "traced" "traced" (defArgs s_traced) (defBody s_traced) (defScope s_traced) .none kV_traced dc_traced pm_traced an_traced cd_traced ct_traced), sl_traced⟩)
    (c_traced : PySem.W.codeIn K cd_traced "traced" = true)
    (k_traced : PySem.W.keepIn K (.ref f_traced) = true)
    (a_check_run : PySem.W.nsIn K mainGlobals "check_run" = some (some (.ref f_check_run)))
    (l_check_run : K.lookup f_check_run = some ⟨oc_check_run, od_check_run, .func (PySem.W.fnOf "check_run" "check_run" (defArgs s_check_run) (defBody s_check_run) (defScope s_check_run) .none kV_check_run dc_check_run pm_check_run an_check_run cd_check_run ct_check_run), sl_check_run⟩)
    (c_check_run : PySem.W.codeIn K cd_check_run "check_run" = true)
    (k_check_run : PySem.W.keepIn K (.ref f_check_run) = true)
    (a_is_step : PySem.W.nsIn K mainGlobals "is_step" = some (some (.ref f_is_step)))
    (l_is_step : K.lookup f_is_step = some ⟨oc_is_step, od_is_step, .func (PySem.W.fnOf "is_step" "is_step" (defArgs s_is_step) (defBody s_is_step) (defScope s_is_step) .none kV_is_step dc_is_step pm_is_step an_is_step cd_is_step ct_is_step), sl_is_step⟩)
    (c_is_step : PySem.W.codeIn K cd_is_step "is_step" = true)
    (k_is_step : PySem.W.keepIn K (.ref f_is_step) = true)
    (a_is_name : PySem.W.nsIn K mainGlobals "is_name" = some (some (.ref f_is_name)))
    (l_is_name : K.lookup f_is_name = some ⟨oc_is_name, od_is_name, .func (PySem.W.fnOf "is_name" "is_name" (defArgs s_is_name) (defBody s_is_name) (defScope s_is_name) .none kV_is_name dc_is_name pm_is_name an_is_name cd_is_name ct_is_name), sl_is_name⟩)
    (c_is_name : PySem.W.codeIn K cd_is_name "is_name" = true)
    (k_is_name : PySem.W.keepIn K (.ref f_is_name) = true)
    (a_answers_at : PySem.W.nsIn K mainGlobals "answers_at" = some (some (.ref f_answers_at)))
    (l_answers_at : K.lookup f_answers_at = some ⟨oc_answers_at, od_answers_at, .func (PySem.W.fnOf "answers_at" "answers_at" (defArgs s_answers_at) (defBody s_answers_at) (defScope s_answers_at) .none kV_answers_at dc_answers_at pm_answers_at an_answers_at cd_answers_at ct_answers_at), sl_answers_at⟩)
    (c_answers_at : PySem.W.codeIn K cd_answers_at "answers_at" = true)
    (k_answers_at : PySem.W.keepIn K (.ref f_answers_at) = true)
    (a_check_answer : PySem.W.nsIn K mainGlobals "check_answer" = some (some (.ref f_check_answer)))
    (l_check_answer : K.lookup f_check_answer = some ⟨oc_check_answer, od_check_answer, .func (PySem.W.fnOf "check_answer" "check_answer" (defArgs s_check_answer) (defBody s_check_answer) (defScope s_check_answer) .none kV_check_answer dc_check_answer pm_check_answer an_check_answer cd_check_answer ct_check_answer), sl_check_answer⟩)
    (c_check_answer : PySem.W.codeIn K cd_check_answer "check_answer" = true)
    (k_check_answer : PySem.W.keepIn K (.ref f_check_answer) = true)
    (a_is_keep : PySem.W.nsIn K mainGlobals "is_keep" = some (some (.ref f_is_keep)))
    (l_is_keep : K.lookup f_is_keep = some ⟨oc_is_keep, od_is_keep, .func (PySem.W.fnOf "is_keep" "is_keep" (defArgs s_is_keep) (defBody s_is_keep) (defScope s_is_keep) .none kV_is_keep dc_is_keep pm_is_keep an_is_keep cd_is_keep ct_is_keep), sl_is_keep⟩)
    (c_is_keep : PySem.W.codeIn K cd_is_keep "is_keep" = true)
    (k_is_keep : PySem.W.keepIn K (.ref f_is_keep) = true)
    (a_law_cell : PySem.W.nsIn K mainGlobals "_law_cell" = some (some (.ref f_law_cell)))
    (l_law_cell : K.lookup f_law_cell = some ⟨oc_law_cell, od_law_cell, .func (PySem.W.fnOf "_law_cell" "_law_cell" (defArgs s_law_cell) (defBody s_law_cell) (defScope s_law_cell) .none kV_law_cell dc_law_cell pm_law_cell an_law_cell cd_law_cell ct_law_cell), sl_law_cell⟩)
    (c_law_cell : PySem.W.codeIn K cd_law_cell "_law_cell" = true)
    (k_law_cell : PySem.W.keepIn K (.ref f_law_cell) = true)
    (a_law_row : PySem.W.nsIn K mainGlobals "_law_row" = some (some (.ref f_law_row)))
    (l_law_row : K.lookup f_law_row = some ⟨oc_law_row, od_law_row, .func (PySem.W.fnOf "_law_row" "_law_row" (defArgs s_law_row) (defBody s_law_row) (defScope s_law_row) .none kV_law_row dc_law_row pm_law_row an_law_row cd_law_row ct_law_row), sl_law_row⟩)
    (c_law_row : PySem.W.codeIn K cd_law_row "_law_row" = true)
    (k_law_row : PySem.W.keepIn K (.ref f_law_row) = true)
    (a_law_entries : PySem.W.nsIn K mainGlobals "_law_entries" = some (some (.ref f_law_entries)))
    (l_law_entries : K.lookup f_law_entries = some ⟨oc_law_entries, od_law_entries, .func (PySem.W.fnOf "_law_entries" "_law_entries" (defArgs s_law_entries) (defBody s_law_entries) (defScope s_law_entries) .none kV_law_entries dc_law_entries pm_law_entries an_law_entries cd_law_entries ct_law_entries), sl_law_entries⟩)
    (c_law_entries : PySem.W.codeIn K cd_law_entries "_law_entries" = true)
    (k_law_entries : PySem.W.keepIn K (.ref f_law_entries) = true)
    (a_law_choices : PySem.W.nsIn K mainGlobals "_law_choices" = some (some (.ref f_law_choices)))
    (l_law_choices : K.lookup f_law_choices = some ⟨oc_law_choices, od_law_choices, .func (PySem.W.fnOf "_law_choices" "_law_choices" (defArgs s_law_choices) (defBody s_law_choices) (defScope s_law_choices) .none kV_law_choices dc_law_choices pm_law_choices an_law_choices cd_law_choices ct_law_choices), sl_law_choices⟩)
    (c_law_choices : PySem.W.codeIn K cd_law_choices "_law_choices" = true)
    (k_law_choices : PySem.W.keepIn K (.ref f_law_choices) = true)
    (a_law_table : PySem.W.nsIn K mainGlobals "_law_table" = some (some (.ref f_law_table)))
    (l_law_table : K.lookup f_law_table = some ⟨oc_law_table, od_law_table, .func (PySem.W.fnOf "_law_table" "_law_table" (defArgs s_law_table) (defBody s_law_table) (defScope s_law_table) .none kV_law_table dc_law_table pm_law_table an_law_table cd_law_table ct_law_table), sl_law_table⟩)
    (c_law_table : PySem.W.codeIn K cd_law_table "_law_table" = true)
    (k_law_table : PySem.W.keepIn K (.ref f_law_table) = true)
    (a_law_fits : PySem.W.nsIn K mainGlobals "_law_fits" = some (some (.ref f_law_fits)))
    (l_law_fits : K.lookup f_law_fits = some ⟨oc_law_fits, od_law_fits, .func (PySem.W.fnOf "_law_fits" "_law_fits" (defArgs s_law_fits) (defBody s_law_fits) (defScope s_law_fits) .none kV_law_fits dc_law_fits pm_law_fits an_law_fits cd_law_fits ct_law_fits), sl_law_fits⟩)
    (c_law_fits : PySem.W.codeIn K cd_law_fits "_law_fits" = true)
    (k_law_fits : PySem.W.keepIn K (.ref f_law_fits) = true)
    (a_law_sound : PySem.W.nsIn K mainGlobals "_law_sound" = some (some (.ref f_law_sound)))
    (l_law_sound : K.lookup f_law_sound = some ⟨oc_law_sound, od_law_sound, .func (PySem.W.fnOf "_law_sound" "_law_sound" (defArgs s_law_sound) (defBody s_law_sound) (defScope s_law_sound) .none kV_law_sound dc_law_sound pm_law_sound an_law_sound cd_law_sound ct_law_sound), sl_law_sound⟩)
    (c_law_sound : PySem.W.codeIn K cd_law_sound "_law_sound" = true)
    (k_law_sound : PySem.W.keepIn K (.ref f_law_sound) = true)
    (a_law_terms : PySem.W.nsIn K mainGlobals "_law_terms" = some (some (.ref f_law_terms)))
    (l_law_terms : K.lookup f_law_terms = some ⟨oc_law_terms, od_law_terms, .func (PySem.W.fnOf "_law_terms" "_law_terms" (defArgs s_law_terms) (defBody s_law_terms) (defScope s_law_terms) .none kV_law_terms dc_law_terms pm_law_terms an_law_terms cd_law_terms ct_law_terms), sl_law_terms⟩)
    (c_law_terms : PySem.W.codeIn K cd_law_terms "_law_terms" = true)
    (k_law_terms : PySem.W.keepIn K (.ref f_law_terms) = true)
    (a_law_marks : PySem.W.nsIn K mainGlobals "_law_marks" = some (some (.ref f_law_marks)))
    (l_law_marks : K.lookup f_law_marks = some ⟨oc_law_marks, od_law_marks, .func (PySem.W.fnOf "_law_marks" "_law_marks" (defArgs s_law_marks) (defBody s_law_marks) (defScope s_law_marks) .none kV_law_marks dc_law_marks pm_law_marks an_law_marks cd_law_marks ct_law_marks), sl_law_marks⟩)
    (c_law_marks : PySem.W.codeIn K cd_law_marks "_law_marks" = true)
    (k_law_marks : PySem.W.keepIn K (.ref f_law_marks) = true)
    (a_law_names : PySem.W.nsIn K mainGlobals "_law_names" = some (some (.ref f_law_names)))
    (l_law_names : K.lookup f_law_names = some ⟨oc_law_names, od_law_names, .func (PySem.W.fnOf "_law_names" "_law_names" (defArgs s_law_names) (defBody s_law_names) (defScope s_law_names) .none kV_law_names dc_law_names pm_law_names an_law_names cd_law_names ct_law_names), sl_law_names⟩)
    (c_law_names : PySem.W.codeIn K cd_law_names "_law_names" = true)
    (k_law_names : PySem.W.keepIn K (.ref f_law_names) = true)
    (a_law_steps : PySem.W.nsIn K mainGlobals "_law_steps" = some (some (.ref f_law_steps)))
    (l_law_steps : K.lookup f_law_steps = some ⟨oc_law_steps, od_law_steps, .func (PySem.W.fnOf "_law_steps" "_law_steps" (defArgs s_law_steps) (defBody s_law_steps) (defScope s_law_steps) .none kV_law_steps dc_law_steps pm_law_steps an_law_steps cd_law_steps ct_law_steps), sl_law_steps⟩)
    (c_law_steps : PySem.W.codeIn K cd_law_steps "_law_steps" = true)
    (k_law_steps : PySem.W.keepIn K (.ref f_law_steps) = true)
    (a_law_one : PySem.W.nsIn K mainGlobals "_law_one" = some (some (.ref f_law_one)))
    (l_law_one : K.lookup f_law_one = some ⟨oc_law_one, od_law_one, .func (PySem.W.fnOf "_law_one" "_law_one" (defArgs s_law_one) (defBody s_law_one) (defScope s_law_one) .none kV_law_one dc_law_one pm_law_one an_law_one cd_law_one ct_law_one), sl_law_one⟩)
    (c_law_one : PySem.W.codeIn K cd_law_one "_law_one" = true)
    (k_law_one : PySem.W.keepIn K (.ref f_law_one) = true)
    (a_law_run : PySem.W.nsIn K mainGlobals "_law_run" = some (some (.ref f_law_run)))
    (l_law_run : K.lookup f_law_run = some ⟨oc_law_run, od_law_run, .func (PySem.W.fnOf "_law_run" "_law_run" (defArgs s_law_run) (defBody s_law_run) (defScope s_law_run) .none kV_law_run dc_law_run pm_law_run an_law_run cd_law_run ct_law_run), sl_law_run⟩)
    (c_law_run : PySem.W.codeIn K cd_law_run "_law_run" = true)
    (k_law_run : PySem.W.keepIn K (.ref f_law_run) = true)
    (a_law_ints : PySem.W.nsIn K mainGlobals "_law_ints" = some (some (.ref f_law_ints)))
    (l_law_ints : K.lookup f_law_ints = some ⟨oc_law_ints, od_law_ints, .func (PySem.W.fnOf "_law_ints" "_law_ints" (defArgs s_law_ints) (defBody s_law_ints) (defScope s_law_ints) .none kV_law_ints dc_law_ints pm_law_ints an_law_ints cd_law_ints ct_law_ints), sl_law_ints⟩)
    (c_law_ints : PySem.W.codeIn K cd_law_ints "_law_ints" = true)
    (k_law_ints : PySem.W.keepIn K (.ref f_law_ints) = true)
    (a_law_asked : PySem.W.nsIn K mainGlobals "_law_asked" = some (some (.ref f_law_asked)))
    (l_law_asked : K.lookup f_law_asked = some ⟨oc_law_asked, od_law_asked, .func (PySem.W.fnOf "_law_asked" "_law_asked" (defArgs s_law_asked) (defBody s_law_asked) (defScope s_law_asked) .none kV_law_asked dc_law_asked pm_law_asked an_law_asked cd_law_asked ct_law_asked), sl_law_asked⟩)
    (c_law_asked : PySem.W.codeIn K cd_law_asked "_law_asked" = true)
    (k_law_asked : PySem.W.keepIn K (.ref f_law_asked) = true)
    (a_law_agrees : PySem.W.nsIn K mainGlobals "_law_agrees" = some (some (.ref f_law_agrees)))
    (l_law_agrees : K.lookup f_law_agrees = some ⟨oc_law_agrees, od_law_agrees, .func (PySem.W.fnOf "_law_agrees" "_law_agrees" (defArgs s_law_agrees) (defBody s_law_agrees) (defScope s_law_agrees) .none kV_law_agrees dc_law_agrees pm_law_agrees an_law_agrees cd_law_agrees ct_law_agrees), sl_law_agrees⟩)
    (c_law_agrees : PySem.W.codeIn K cd_law_agrees "_law_agrees" = true)
    (k_law_agrees : PySem.W.keepIn K (.ref f_law_agrees) = true)
    (a_law : PySem.W.nsIn K mainGlobals "law" = some (some (.ref f_law)))
    (l_law : K.lookup f_law = some ⟨oc_law, od_law, .func (PySem.W.fnOf "law" "law" (defArgs s_law) (defBody s_law) (defScope s_law) .none kV_law dc_law pm_law an_law cd_law ct_law), sl_law⟩)
    (c_law : PySem.W.codeIn K cd_law "law" = true)
    (k_law : PySem.W.keepIn K (.ref f_law) = true)
    (gv_GREATEST : PySem.W.nsIn K mainGlobals "GREATEST" = some (some (.int 1000000000000000000000000000000 tk_GREATEST)))
    (gv_SIGNS : PySem.W.nsIn K mainGlobals "SIGNS" = some (some (.str "abcdefghijklmnopqrstuvwxyz0123456789" tk_SIGNS)))
    (gv_LONGEST_NAME : PySem.W.nsIn K mainGlobals "LONGEST_NAME" = some (some (.int 8 tk_LONGEST_NAME)))
    (gv_ENTRIES : PySem.W.nsIn K mainGlobals "ENTRIES" = some (some (.ref o_ENTRIES)))
    (tl_ENTRIES : K.lookup o_ENTRIES = some ⟨.type "tuple", td_ENTRIES, .seq #[.str "read late" u0_ENTRIES, .str "read under" u1_ENTRIES, .str "read below" u2_ENTRIES, .str "read above" u3_ENTRIES, .str "write late" u4_ENTRIES, .str "write under" u5_ENTRIES, .str "write below" u6_ENTRIES, .str "write above" u7_ENTRIES, .str "write free passed" u8_ENTRIES, .str "write own passed" u9_ENTRIES, .str "write late passed" u10_ENTRIES, .str "write under passed" u11_ENTRIES, .str "write below passed" u12_ENTRIES, .str "write above passed" u13_ENTRIES] tn_ENTRIES, ts_ENTRIES⟩)
    (gv_ANSWERS : PySem.W.nsIn K mainGlobals "ANSWERS" = some (some (.ref o_ANSWERS)))
    (dl_ANSWERS : K.lookup o_ANSWERS = some ⟨.type "dict", none, .dict #[⟨h0_ANSWERS, .str "read late" tk0_ANSWERS, .ref o0_ANSWERS⟩, ⟨h1_ANSWERS, .str "read under" tk1_ANSWERS, .ref o1_ANSWERS⟩, ⟨h2_ANSWERS, .str "read below" tk2_ANSWERS, .ref o2_ANSWERS⟩, ⟨h3_ANSWERS, .str "read above" tk3_ANSWERS, .ref o3_ANSWERS⟩, ⟨h4_ANSWERS, .str "write late" tk4_ANSWERS, .ref o4_ANSWERS⟩, ⟨h5_ANSWERS, .str "write under" tk5_ANSWERS, .ref o5_ANSWERS⟩, ⟨h6_ANSWERS, .str "write below" tk6_ANSWERS, .ref o6_ANSWERS⟩, ⟨h7_ANSWERS, .str "write above" tk7_ANSWERS, .ref o7_ANSWERS⟩, ⟨h8_ANSWERS, .str "write free passed" tk8_ANSWERS, .ref o8_ANSWERS⟩, ⟨h9_ANSWERS, .str "write own passed" tk9_ANSWERS, .ref o9_ANSWERS⟩, ⟨h10_ANSWERS, .str "write late passed" tk10_ANSWERS, .ref o10_ANSWERS⟩, ⟨h11_ANSWERS, .str "write under passed" tk11_ANSWERS, .ref o11_ANSWERS⟩, ⟨h12_ANSWERS, .str "write below passed" tk12_ANSWERS, .ref o12_ANSWERS⟩, ⟨h13_ANSWERS, .str "write above passed" tk13_ANSWERS, .ref o13_ANSWERS⟩] ep_ANSWERS, #[]⟩)
    (dk_ANSWERS : PySem.W.KeysLit w.params [⟨h0_ANSWERS, .str "read late" tk0_ANSWERS, .ref o0_ANSWERS⟩, ⟨h1_ANSWERS, .str "read under" tk1_ANSWERS, .ref o1_ANSWERS⟩, ⟨h2_ANSWERS, .str "read below" tk2_ANSWERS, .ref o2_ANSWERS⟩, ⟨h3_ANSWERS, .str "read above" tk3_ANSWERS, .ref o3_ANSWERS⟩, ⟨h4_ANSWERS, .str "write late" tk4_ANSWERS, .ref o4_ANSWERS⟩, ⟨h5_ANSWERS, .str "write under" tk5_ANSWERS, .ref o5_ANSWERS⟩, ⟨h6_ANSWERS, .str "write below" tk6_ANSWERS, .ref o6_ANSWERS⟩, ⟨h7_ANSWERS, .str "write above" tk7_ANSWERS, .ref o7_ANSWERS⟩, ⟨h8_ANSWERS, .str "write free passed" tk8_ANSWERS, .ref o8_ANSWERS⟩, ⟨h9_ANSWERS, .str "write own passed" tk9_ANSWERS, .ref o9_ANSWERS⟩, ⟨h10_ANSWERS, .str "write late passed" tk10_ANSWERS, .ref o10_ANSWERS⟩, ⟨h11_ANSWERS, .str "write under passed" tk11_ANSWERS, .ref o11_ANSWERS⟩, ⟨h12_ANSWERS, .str "write below passed" tk12_ANSWERS, .ref o12_ANSWERS⟩, ⟨h13_ANSWERS, .str "write above passed" tk13_ANSWERS, .ref o13_ANSWERS⟩])
    (ds_ANSWERS : (o_ANSWERS == sysModules) = false)
    (tl_0_ANSWERS : K.lookup o0_ANSWERS = some ⟨.type "tuple", td_0_ANSWERS, .seq #[.str "last" u0_0_ANSWERS, .str "old" u1_0_ANSWERS, .str "abort" u2_0_ANSWERS] tn_0_ANSWERS, ts_0_ANSWERS⟩)
    (tl_1_ANSWERS : K.lookup o1_ANSWERS = some ⟨.type "tuple", td_1_ANSWERS, .seq #[.str "last" u0_1_ANSWERS, .str "old" u1_1_ANSWERS, .str "open" u2_1_ANSWERS, .str "wait" u3_1_ANSWERS, .str "abort" u4_1_ANSWERS] tn_1_ANSWERS, ts_1_ANSWERS⟩)
    (tl_2_ANSWERS : K.lookup o2_ANSWERS = some ⟨.type "tuple", td_2_ANSWERS, .seq #[.str "last" u0_2_ANSWERS, .str "open" u1_2_ANSWERS, .str "wait" u2_2_ANSWERS, .str "abort" u3_2_ANSWERS] tn_2_ANSWERS, ts_2_ANSWERS⟩)
    (tl_3_ANSWERS : K.lookup o3_ANSWERS = some ⟨.type "tuple", td_3_ANSWERS, .seq #[.str "last" u0_3_ANSWERS, .str "open" u1_3_ANSWERS, .str "wait" u2_3_ANSWERS, .str "abort" u3_3_ANSWERS] tn_3_ANSWERS, ts_3_ANSWERS⟩)
    (tl_4_ANSWERS : K.lookup o4_ANSWERS = some ⟨.type "tuple", td_4_ANSWERS, .seq #[.str "skip" u0_4_ANSWERS, .str "abort" u1_4_ANSWERS] tn_4_ANSWERS, ts_4_ANSWERS⟩)
    (tl_5_ANSWERS : K.lookup o5_ANSWERS = some ⟨.type "tuple", td_5_ANSWERS, .seq #[.str "skip" u0_5_ANSWERS, .str "wait" u1_5_ANSWERS, .str "wound" u2_5_ANSWERS, .str "abort" u3_5_ANSWERS] tn_5_ANSWERS, ts_5_ANSWERS⟩)
    (tl_6_ANSWERS : K.lookup o6_ANSWERS = some ⟨.type "tuple", td_6_ANSWERS, .seq #[.str "skip" u0_6_ANSWERS, .str "wait" u1_6_ANSWERS, .str "wound" u2_6_ANSWERS, .str "abort" u3_6_ANSWERS] tn_6_ANSWERS, ts_6_ANSWERS⟩)
    (tl_7_ANSWERS : K.lookup o7_ANSWERS = some ⟨.type "tuple", td_7_ANSWERS, .seq #[.str "skip" u0_7_ANSWERS, .str "wait" u1_7_ANSWERS, .str "wound" u2_7_ANSWERS, .str "abort" u3_7_ANSWERS] tn_7_ANSWERS, ts_7_ANSWERS⟩)
    (tl_8_ANSWERS : K.lookup o8_ANSWERS = some ⟨.type "tuple", td_8_ANSWERS, .seq #[.str "put" u0_8_ANSWERS, .str "abort" u1_8_ANSWERS] tn_8_ANSWERS, ts_8_ANSWERS⟩)
    (tl_9_ANSWERS : K.lookup o9_ANSWERS = some ⟨.type "tuple", td_9_ANSWERS, .seq #[.str "put" u0_9_ANSWERS, .str "abort" u1_9_ANSWERS] tn_9_ANSWERS, ts_9_ANSWERS⟩)
    (tl_10_ANSWERS : K.lookup o10_ANSWERS = some ⟨.type "tuple", td_10_ANSWERS, .seq #[.str "skip" u0_10_ANSWERS, .str "abort" u1_10_ANSWERS] tn_10_ANSWERS, ts_10_ANSWERS⟩)
    (tl_11_ANSWERS : K.lookup o11_ANSWERS = some ⟨.type "tuple", td_11_ANSWERS, .seq #[.str "skip" u0_11_ANSWERS, .str "wait" u1_11_ANSWERS, .str "wound" u2_11_ANSWERS, .str "abort" u3_11_ANSWERS] tn_11_ANSWERS, ts_11_ANSWERS⟩)
    (tl_12_ANSWERS : K.lookup o12_ANSWERS = some ⟨.type "tuple", td_12_ANSWERS, .seq #[.str "skip" u0_12_ANSWERS, .str "wait" u1_12_ANSWERS, .str "wound" u2_12_ANSWERS, .str "abort" u3_12_ANSWERS] tn_12_ANSWERS, ts_12_ANSWERS⟩)
    (tl_13_ANSWERS : K.lookup o13_ANSWERS = some ⟨.type "tuple", td_13_ANSWERS, .seq #[.str "skip" u0_13_ANSWERS, .str "wait" u1_13_ANSWERS, .str "wound" u2_13_ANSWERS, .str "abort" u3_13_ANSWERS] tn_13_ANSWERS, ts_13_ANSWERS⟩)
    (dn0_ANSWERS : PySem.W.nsIn K o_ANSWERS "read late" = some (some (.ref o0_ANSWERS)))
    (dn1_ANSWERS : PySem.W.nsIn K o_ANSWERS "read under" = some (some (.ref o1_ANSWERS)))
    (dn2_ANSWERS : PySem.W.nsIn K o_ANSWERS "read below" = some (some (.ref o2_ANSWERS)))
    (dn3_ANSWERS : PySem.W.nsIn K o_ANSWERS "read above" = some (some (.ref o3_ANSWERS)))
    (dn4_ANSWERS : PySem.W.nsIn K o_ANSWERS "write late" = some (some (.ref o4_ANSWERS)))
    (dn5_ANSWERS : PySem.W.nsIn K o_ANSWERS "write under" = some (some (.ref o5_ANSWERS)))
    (dn6_ANSWERS : PySem.W.nsIn K o_ANSWERS "write below" = some (some (.ref o6_ANSWERS)))
    (dn7_ANSWERS : PySem.W.nsIn K o_ANSWERS "write above" = some (some (.ref o7_ANSWERS)))
    (dn8_ANSWERS : PySem.W.nsIn K o_ANSWERS "write free passed" = some (some (.ref o8_ANSWERS)))
    (dn9_ANSWERS : PySem.W.nsIn K o_ANSWERS "write own passed" = some (some (.ref o9_ANSWERS)))
    (dn10_ANSWERS : PySem.W.nsIn K o_ANSWERS "write late passed" = some (some (.ref o10_ANSWERS)))
    (dn11_ANSWERS : PySem.W.nsIn K o_ANSWERS "write under passed" = some (some (.ref o11_ANSWERS)))
    (dn12_ANSWERS : PySem.W.nsIn K o_ANSWERS "write below passed" = some (some (.ref o12_ANSWERS)))
    (dn13_ANSWERS : PySem.W.nsIn K o_ANSWERS "write above passed" = some (some (.ref o13_ANSWERS)))
    (gv_MOST_KEPT : PySem.W.nsIn K mainGlobals "MOST_KEPT" = some (some (.int 20 tk_MOST_KEPT)))
    (n_NotImplemented : PySem.W.nsIn K mainGlobals "NotImplemented" = some none)
    (n_all : PySem.W.nsIn K mainGlobals "all" = some none)
    (n_bool : PySem.W.nsIn K mainGlobals "bool" = some none)
    (n_dict : PySem.W.nsIn K mainGlobals "dict" = some none)
    (n_enumerate : PySem.W.nsIn K mainGlobals "enumerate" = some none)
    (n_int : PySem.W.nsIn K mainGlobals "int" = some none)
    (n_isinstance : PySem.W.nsIn K mainGlobals "isinstance" = some none)
    (n_len : PySem.W.nsIn K mainGlobals "len" = some none)
    (n_range : PySem.W.nsIn K mainGlobals "range" = some none)
    (n_sorted : PySem.W.nsIn K mainGlobals "sorted" = some none)
    (n_str : PySem.W.nsIn K mainGlobals "str" = some none)
    (n_super : PySem.W.nsIn K mainGlobals "super" = some none)
    (n_tuple : PySem.W.nsIn K mainGlobals "tuple" = some none)
    : ∃ T : Txt w K mg, T.f_law = fa := by
  refine ⟨{
    isg := ⟨z_hn, z_ht⟩,
    c_StampError := c_StampError,
    g_StampError := PySem.W.mg_of X G gc_StampError,
    k_StampError := kc_StampError,
    c_BadStamp := c_BadStamp,
    g_BadStamp := PySem.W.mg_of X G gc_BadStamp,
    k_BadStamp := kc_BadStamp,
    c_BadEntry := c_BadEntry,
    g_BadEntry := PySem.W.mg_of X G gc_BadEntry,
    k_BadEntry := kc_BadEntry,
    c_BadAnswer := c_BadAnswer,
    g_BadAnswer := PySem.W.mg_of X G gc_BadAnswer,
    k_BadAnswer := kc_BadAnswer,
    c_BadSetting := c_BadSetting,
    g_BadSetting := PySem.W.mg_of X G gc_BadSetting,
    k_BadSetting := kc_BadSetting,
    c_BadStep := c_BadStep,
    g_BadStep := PySem.W.mg_of X G gc_BadStep,
    k_BadStep := kc_BadStep,
    c_Finished := c_Finished,
    g_Finished := PySem.W.mg_of X G gc_Finished,
    k_Finished := kc_Finished,
    c_MustWait := c_MustWait,
    g_MustWait := PySem.W.mg_of X G gc_MustWait,
    k_MustWait := kc_MustWait,
    c_TooLate := c_TooLate,
    g_TooLate := PySem.W.mg_of X G gc_TooLate,
    k_TooLate := kc_TooLate,
    c_BrokenOff := c_BrokenOff,
    g_BrokenOff := PySem.W.mg_of X G gc_BrokenOff,
    k_BrokenOff := kc_BrokenOff,
    c_Stamp := c_Stamp,
    g_Stamp := PySem.W.mg_of X G gc_Stamp,
    k_Stamp := kc_Stamp,
    c_Item := c_Item,
    g_Item := PySem.W.mg_of X G gc_Item,
    k_Item := kc_Item,
    c_State := c_State,
    g_State := PySem.W.mg_of X G gc_State,
    k_State := kc_State,
    c_Desk := c_Desk,
    g_Desk := PySem.W.mg_of X G gc_Desk,
    k_Desk := kc_Desk,
    c_Reader := c_Reader,
    g_Reader := PySem.W.mg_of X G gc_Reader,
    k_Reader := kc_Reader,
    c_Writer := c_Writer,
    g_Writer := PySem.W.mg_of X G gc_Writer,
    k_Writer := kc_Writer,
    c_Transaction := c_Transaction,
    g_Transaction := PySem.W.mg_of X G gc_Transaction,
    k_Transaction := kc_Transaction,
    c_Book := c_Book,
    g_Book := PySem.W.mg_of X G gc_Book,
    k_Book := kc_Book,
    oex_StampError := ⟨⟨_, _, _, _, _, _, _, _, _, _, _, _, _, _, _, xl_StampError, rfl⟩, sa_StampError, xb_StampError, xt_StampError, kc_StampError⟩,
    excc_StampError := ⟨ga_StampError, gg_StampError, xb_StampError, hd_StampError, ha_StampError, z_hn, z_ht, hm_StampError⟩,
    xfc_StampError := ⟨ga_StampError, gg_StampError, xb_StampError, hd_StampError⟩,
    exm_StampError_StampError := PySem.W.exm_ref xb_StampError hd_StampError xt_StampError sb_StampError_StampError,
    kit_StampError_StampError := ko_StampError_StampError,
    exm_StampError_BadStamp := PySem.W.exm_ref xb_BadStamp hd_BadStamp xt_BadStamp sb_StampError_BadStamp,
    kit_StampError_BadStamp := ko_StampError_BadStamp,
    exm_StampError_BadEntry := PySem.W.exm_ref xb_BadEntry hd_BadEntry xt_BadEntry sb_StampError_BadEntry,
    kit_StampError_BadEntry := ko_StampError_BadEntry,
    exm_StampError_BadAnswer := PySem.W.exm_ref xb_BadAnswer hd_BadAnswer xt_BadAnswer sb_StampError_BadAnswer,
    kit_StampError_BadAnswer := ko_StampError_BadAnswer,
    exm_StampError_BadSetting := PySem.W.exm_ref xb_BadSetting hd_BadSetting xt_BadSetting sb_StampError_BadSetting,
    kit_StampError_BadSetting := ko_StampError_BadSetting,
    exm_StampError_BadStep := PySem.W.exm_ref xb_BadStep hd_BadStep xt_BadStep sb_StampError_BadStep,
    kit_StampError_BadStep := ko_StampError_BadStep,
    exm_StampError_Finished := PySem.W.exm_ref xb_Finished hd_Finished xt_Finished sb_StampError_Finished,
    kit_StampError_Finished := ko_StampError_Finished,
    exm_StampError_MustWait := PySem.W.exm_ref xb_MustWait hd_MustWait xt_MustWait sb_StampError_MustWait,
    kit_StampError_MustWait := ko_StampError_MustWait,
    exm_StampError_TooLate := PySem.W.exm_ref xb_TooLate hd_TooLate xt_TooLate sb_StampError_TooLate,
    kit_StampError_TooLate := ko_StampError_TooLate,
    exm_StampError_BrokenOff := PySem.W.exm_ref xb_BrokenOff hd_BrokenOff xt_BrokenOff sb_StampError_BrokenOff,
    kit_StampError_BrokenOff := ko_StampError_BrokenOff,
    kit_StampError_VE := kv_StampError,
    oex_BadStamp := ⟨⟨_, _, _, _, _, _, _, _, _, _, _, _, _, _, _, xl_BadStamp, rfl⟩, sa_BadStamp, xb_BadStamp, xt_BadStamp, kc_BadStamp⟩,
    excc_BadStamp := ⟨ga_BadStamp, gg_BadStamp, xb_BadStamp, hd_BadStamp, ha_BadStamp, z_hn, z_ht, hm_BadStamp⟩,
    xfc_BadStamp := ⟨ga_BadStamp, gg_BadStamp, xb_BadStamp, hd_BadStamp⟩,
    exm_BadStamp_StampError := PySem.W.exm_ref xb_StampError hd_StampError xt_StampError sb_BadStamp_StampError,
    kit_BadStamp_StampError := ko_BadStamp_StampError,
    exm_BadStamp_BadStamp := PySem.W.exm_ref xb_BadStamp hd_BadStamp xt_BadStamp sb_BadStamp_BadStamp,
    kit_BadStamp_BadStamp := ko_BadStamp_BadStamp,
    exm_BadStamp_BadEntry := PySem.W.exm_ref xb_BadEntry hd_BadEntry xt_BadEntry sb_BadStamp_BadEntry,
    kit_BadStamp_BadEntry := ko_BadStamp_BadEntry,
    exm_BadStamp_BadAnswer := PySem.W.exm_ref xb_BadAnswer hd_BadAnswer xt_BadAnswer sb_BadStamp_BadAnswer,
    kit_BadStamp_BadAnswer := ko_BadStamp_BadAnswer,
    exm_BadStamp_BadSetting := PySem.W.exm_ref xb_BadSetting hd_BadSetting xt_BadSetting sb_BadStamp_BadSetting,
    kit_BadStamp_BadSetting := ko_BadStamp_BadSetting,
    exm_BadStamp_BadStep := PySem.W.exm_ref xb_BadStep hd_BadStep xt_BadStep sb_BadStamp_BadStep,
    kit_BadStamp_BadStep := ko_BadStamp_BadStep,
    exm_BadStamp_Finished := PySem.W.exm_ref xb_Finished hd_Finished xt_Finished sb_BadStamp_Finished,
    kit_BadStamp_Finished := ko_BadStamp_Finished,
    exm_BadStamp_MustWait := PySem.W.exm_ref xb_MustWait hd_MustWait xt_MustWait sb_BadStamp_MustWait,
    kit_BadStamp_MustWait := ko_BadStamp_MustWait,
    exm_BadStamp_TooLate := PySem.W.exm_ref xb_TooLate hd_TooLate xt_TooLate sb_BadStamp_TooLate,
    kit_BadStamp_TooLate := ko_BadStamp_TooLate,
    exm_BadStamp_BrokenOff := PySem.W.exm_ref xb_BrokenOff hd_BrokenOff xt_BrokenOff sb_BadStamp_BrokenOff,
    kit_BadStamp_BrokenOff := ko_BadStamp_BrokenOff,
    kit_BadStamp_VE := kv_BadStamp,
    na_BadStamp_given := na_BadStamp_given,
    oex_BadEntry := ⟨⟨_, _, _, _, _, _, _, _, _, _, _, _, _, _, _, xl_BadEntry, rfl⟩, sa_BadEntry, xb_BadEntry, xt_BadEntry, kc_BadEntry⟩,
    excc_BadEntry := ⟨ga_BadEntry, gg_BadEntry, xb_BadEntry, hd_BadEntry, ha_BadEntry, z_hn, z_ht, hm_BadEntry⟩,
    xfc_BadEntry := ⟨ga_BadEntry, gg_BadEntry, xb_BadEntry, hd_BadEntry⟩,
    exm_BadEntry_StampError := PySem.W.exm_ref xb_StampError hd_StampError xt_StampError sb_BadEntry_StampError,
    kit_BadEntry_StampError := ko_BadEntry_StampError,
    exm_BadEntry_BadStamp := PySem.W.exm_ref xb_BadStamp hd_BadStamp xt_BadStamp sb_BadEntry_BadStamp,
    kit_BadEntry_BadStamp := ko_BadEntry_BadStamp,
    exm_BadEntry_BadEntry := PySem.W.exm_ref xb_BadEntry hd_BadEntry xt_BadEntry sb_BadEntry_BadEntry,
    kit_BadEntry_BadEntry := ko_BadEntry_BadEntry,
    exm_BadEntry_BadAnswer := PySem.W.exm_ref xb_BadAnswer hd_BadAnswer xt_BadAnswer sb_BadEntry_BadAnswer,
    kit_BadEntry_BadAnswer := ko_BadEntry_BadAnswer,
    exm_BadEntry_BadSetting := PySem.W.exm_ref xb_BadSetting hd_BadSetting xt_BadSetting sb_BadEntry_BadSetting,
    kit_BadEntry_BadSetting := ko_BadEntry_BadSetting,
    exm_BadEntry_BadStep := PySem.W.exm_ref xb_BadStep hd_BadStep xt_BadStep sb_BadEntry_BadStep,
    kit_BadEntry_BadStep := ko_BadEntry_BadStep,
    exm_BadEntry_Finished := PySem.W.exm_ref xb_Finished hd_Finished xt_Finished sb_BadEntry_Finished,
    kit_BadEntry_Finished := ko_BadEntry_Finished,
    exm_BadEntry_MustWait := PySem.W.exm_ref xb_MustWait hd_MustWait xt_MustWait sb_BadEntry_MustWait,
    kit_BadEntry_MustWait := ko_BadEntry_MustWait,
    exm_BadEntry_TooLate := PySem.W.exm_ref xb_TooLate hd_TooLate xt_TooLate sb_BadEntry_TooLate,
    kit_BadEntry_TooLate := ko_BadEntry_TooLate,
    exm_BadEntry_BrokenOff := PySem.W.exm_ref xb_BrokenOff hd_BrokenOff xt_BrokenOff sb_BadEntry_BrokenOff,
    kit_BadEntry_BrokenOff := ko_BadEntry_BrokenOff,
    kit_BadEntry_VE := kv_BadEntry,
    na_BadEntry_entry := na_BadEntry_entry,
    oex_BadAnswer := ⟨⟨_, _, _, _, _, _, _, _, _, _, _, _, _, _, _, xl_BadAnswer, rfl⟩, sa_BadAnswer, xb_BadAnswer, xt_BadAnswer, kc_BadAnswer⟩,
    excc_BadAnswer := ⟨ga_BadAnswer, gg_BadAnswer, xb_BadAnswer, hd_BadAnswer, ha_BadAnswer, z_hn, z_ht, hm_BadAnswer⟩,
    xfc_BadAnswer := ⟨ga_BadAnswer, gg_BadAnswer, xb_BadAnswer, hd_BadAnswer⟩,
    exm_BadAnswer_StampError := PySem.W.exm_ref xb_StampError hd_StampError xt_StampError sb_BadAnswer_StampError,
    kit_BadAnswer_StampError := ko_BadAnswer_StampError,
    exm_BadAnswer_BadStamp := PySem.W.exm_ref xb_BadStamp hd_BadStamp xt_BadStamp sb_BadAnswer_BadStamp,
    kit_BadAnswer_BadStamp := ko_BadAnswer_BadStamp,
    exm_BadAnswer_BadEntry := PySem.W.exm_ref xb_BadEntry hd_BadEntry xt_BadEntry sb_BadAnswer_BadEntry,
    kit_BadAnswer_BadEntry := ko_BadAnswer_BadEntry,
    exm_BadAnswer_BadAnswer := PySem.W.exm_ref xb_BadAnswer hd_BadAnswer xt_BadAnswer sb_BadAnswer_BadAnswer,
    kit_BadAnswer_BadAnswer := ko_BadAnswer_BadAnswer,
    exm_BadAnswer_BadSetting := PySem.W.exm_ref xb_BadSetting hd_BadSetting xt_BadSetting sb_BadAnswer_BadSetting,
    kit_BadAnswer_BadSetting := ko_BadAnswer_BadSetting,
    exm_BadAnswer_BadStep := PySem.W.exm_ref xb_BadStep hd_BadStep xt_BadStep sb_BadAnswer_BadStep,
    kit_BadAnswer_BadStep := ko_BadAnswer_BadStep,
    exm_BadAnswer_Finished := PySem.W.exm_ref xb_Finished hd_Finished xt_Finished sb_BadAnswer_Finished,
    kit_BadAnswer_Finished := ko_BadAnswer_Finished,
    exm_BadAnswer_MustWait := PySem.W.exm_ref xb_MustWait hd_MustWait xt_MustWait sb_BadAnswer_MustWait,
    kit_BadAnswer_MustWait := ko_BadAnswer_MustWait,
    exm_BadAnswer_TooLate := PySem.W.exm_ref xb_TooLate hd_TooLate xt_TooLate sb_BadAnswer_TooLate,
    kit_BadAnswer_TooLate := ko_BadAnswer_TooLate,
    exm_BadAnswer_BrokenOff := PySem.W.exm_ref xb_BrokenOff hd_BrokenOff xt_BrokenOff sb_BadAnswer_BrokenOff,
    kit_BadAnswer_BrokenOff := ko_BadAnswer_BrokenOff,
    kit_BadAnswer_VE := kv_BadAnswer,
    na_BadAnswer_answer := na_BadAnswer_answer,
    na_BadAnswer_entry := na_BadAnswer_entry,
    oex_BadSetting := ⟨⟨_, _, _, _, _, _, _, _, _, _, _, _, _, _, _, xl_BadSetting, rfl⟩, sa_BadSetting, xb_BadSetting, xt_BadSetting, kc_BadSetting⟩,
    excc_BadSetting := ⟨ga_BadSetting, gg_BadSetting, xb_BadSetting, hd_BadSetting, ha_BadSetting, z_hn, z_ht, hm_BadSetting⟩,
    xfc_BadSetting := ⟨ga_BadSetting, gg_BadSetting, xb_BadSetting, hd_BadSetting⟩,
    exm_BadSetting_StampError := PySem.W.exm_ref xb_StampError hd_StampError xt_StampError sb_BadSetting_StampError,
    kit_BadSetting_StampError := ko_BadSetting_StampError,
    exm_BadSetting_BadStamp := PySem.W.exm_ref xb_BadStamp hd_BadStamp xt_BadStamp sb_BadSetting_BadStamp,
    kit_BadSetting_BadStamp := ko_BadSetting_BadStamp,
    exm_BadSetting_BadEntry := PySem.W.exm_ref xb_BadEntry hd_BadEntry xt_BadEntry sb_BadSetting_BadEntry,
    kit_BadSetting_BadEntry := ko_BadSetting_BadEntry,
    exm_BadSetting_BadAnswer := PySem.W.exm_ref xb_BadAnswer hd_BadAnswer xt_BadAnswer sb_BadSetting_BadAnswer,
    kit_BadSetting_BadAnswer := ko_BadSetting_BadAnswer,
    exm_BadSetting_BadSetting := PySem.W.exm_ref xb_BadSetting hd_BadSetting xt_BadSetting sb_BadSetting_BadSetting,
    kit_BadSetting_BadSetting := ko_BadSetting_BadSetting,
    exm_BadSetting_BadStep := PySem.W.exm_ref xb_BadStep hd_BadStep xt_BadStep sb_BadSetting_BadStep,
    kit_BadSetting_BadStep := ko_BadSetting_BadStep,
    exm_BadSetting_Finished := PySem.W.exm_ref xb_Finished hd_Finished xt_Finished sb_BadSetting_Finished,
    kit_BadSetting_Finished := ko_BadSetting_Finished,
    exm_BadSetting_MustWait := PySem.W.exm_ref xb_MustWait hd_MustWait xt_MustWait sb_BadSetting_MustWait,
    kit_BadSetting_MustWait := ko_BadSetting_MustWait,
    exm_BadSetting_TooLate := PySem.W.exm_ref xb_TooLate hd_TooLate xt_TooLate sb_BadSetting_TooLate,
    kit_BadSetting_TooLate := ko_BadSetting_TooLate,
    exm_BadSetting_BrokenOff := PySem.W.exm_ref xb_BrokenOff hd_BrokenOff xt_BrokenOff sb_BadSetting_BrokenOff,
    kit_BadSetting_BrokenOff := ko_BadSetting_BrokenOff,
    kit_BadSetting_VE := kv_BadSetting,
    na_BadSetting_given := na_BadSetting_given,
    oex_BadStep := ⟨⟨_, _, _, _, _, _, _, _, _, _, _, _, _, _, _, xl_BadStep, rfl⟩, sa_BadStep, xb_BadStep, xt_BadStep, kc_BadStep⟩,
    excc_BadStep := ⟨ga_BadStep, gg_BadStep, xb_BadStep, hd_BadStep, ha_BadStep, z_hn, z_ht, hm_BadStep⟩,
    xfc_BadStep := ⟨ga_BadStep, gg_BadStep, xb_BadStep, hd_BadStep⟩,
    exm_BadStep_StampError := PySem.W.exm_ref xb_StampError hd_StampError xt_StampError sb_BadStep_StampError,
    kit_BadStep_StampError := ko_BadStep_StampError,
    exm_BadStep_BadStamp := PySem.W.exm_ref xb_BadStamp hd_BadStamp xt_BadStamp sb_BadStep_BadStamp,
    kit_BadStep_BadStamp := ko_BadStep_BadStamp,
    exm_BadStep_BadEntry := PySem.W.exm_ref xb_BadEntry hd_BadEntry xt_BadEntry sb_BadStep_BadEntry,
    kit_BadStep_BadEntry := ko_BadStep_BadEntry,
    exm_BadStep_BadAnswer := PySem.W.exm_ref xb_BadAnswer hd_BadAnswer xt_BadAnswer sb_BadStep_BadAnswer,
    kit_BadStep_BadAnswer := ko_BadStep_BadAnswer,
    exm_BadStep_BadSetting := PySem.W.exm_ref xb_BadSetting hd_BadSetting xt_BadSetting sb_BadStep_BadSetting,
    kit_BadStep_BadSetting := ko_BadStep_BadSetting,
    exm_BadStep_BadStep := PySem.W.exm_ref xb_BadStep hd_BadStep xt_BadStep sb_BadStep_BadStep,
    kit_BadStep_BadStep := ko_BadStep_BadStep,
    exm_BadStep_Finished := PySem.W.exm_ref xb_Finished hd_Finished xt_Finished sb_BadStep_Finished,
    kit_BadStep_Finished := ko_BadStep_Finished,
    exm_BadStep_MustWait := PySem.W.exm_ref xb_MustWait hd_MustWait xt_MustWait sb_BadStep_MustWait,
    kit_BadStep_MustWait := ko_BadStep_MustWait,
    exm_BadStep_TooLate := PySem.W.exm_ref xb_TooLate hd_TooLate xt_TooLate sb_BadStep_TooLate,
    kit_BadStep_TooLate := ko_BadStep_TooLate,
    exm_BadStep_BrokenOff := PySem.W.exm_ref xb_BrokenOff hd_BrokenOff xt_BrokenOff sb_BadStep_BrokenOff,
    kit_BadStep_BrokenOff := ko_BadStep_BrokenOff,
    kit_BadStep_VE := kv_BadStep,
    na_BadStep_index := na_BadStep_index,
    oex_Finished := ⟨⟨_, _, _, _, _, _, _, _, _, _, _, _, _, _, _, xl_Finished, rfl⟩, sa_Finished, xb_Finished, xt_Finished, kc_Finished⟩,
    excc_Finished := ⟨ga_Finished, gg_Finished, xb_Finished, hd_Finished, ha_Finished, z_hn, z_ht, hm_Finished⟩,
    xfc_Finished := ⟨ga_Finished, gg_Finished, xb_Finished, hd_Finished⟩,
    exm_Finished_StampError := PySem.W.exm_ref xb_StampError hd_StampError xt_StampError sb_Finished_StampError,
    kit_Finished_StampError := ko_Finished_StampError,
    exm_Finished_BadStamp := PySem.W.exm_ref xb_BadStamp hd_BadStamp xt_BadStamp sb_Finished_BadStamp,
    kit_Finished_BadStamp := ko_Finished_BadStamp,
    exm_Finished_BadEntry := PySem.W.exm_ref xb_BadEntry hd_BadEntry xt_BadEntry sb_Finished_BadEntry,
    kit_Finished_BadEntry := ko_Finished_BadEntry,
    exm_Finished_BadAnswer := PySem.W.exm_ref xb_BadAnswer hd_BadAnswer xt_BadAnswer sb_Finished_BadAnswer,
    kit_Finished_BadAnswer := ko_Finished_BadAnswer,
    exm_Finished_BadSetting := PySem.W.exm_ref xb_BadSetting hd_BadSetting xt_BadSetting sb_Finished_BadSetting,
    kit_Finished_BadSetting := ko_Finished_BadSetting,
    exm_Finished_BadStep := PySem.W.exm_ref xb_BadStep hd_BadStep xt_BadStep sb_Finished_BadStep,
    kit_Finished_BadStep := ko_Finished_BadStep,
    exm_Finished_Finished := PySem.W.exm_ref xb_Finished hd_Finished xt_Finished sb_Finished_Finished,
    kit_Finished_Finished := ko_Finished_Finished,
    exm_Finished_MustWait := PySem.W.exm_ref xb_MustWait hd_MustWait xt_MustWait sb_Finished_MustWait,
    kit_Finished_MustWait := ko_Finished_MustWait,
    exm_Finished_TooLate := PySem.W.exm_ref xb_TooLate hd_TooLate xt_TooLate sb_Finished_TooLate,
    kit_Finished_TooLate := ko_Finished_TooLate,
    exm_Finished_BrokenOff := PySem.W.exm_ref xb_BrokenOff hd_BrokenOff xt_BrokenOff sb_Finished_BrokenOff,
    kit_Finished_BrokenOff := ko_Finished_BrokenOff,
    kit_Finished_VE := kv_Finished,
    na_Finished_stamp := na_Finished_stamp,
    oex_MustWait := ⟨⟨_, _, _, _, _, _, _, _, _, _, _, _, _, _, _, xl_MustWait, rfl⟩, sa_MustWait, xb_MustWait, xt_MustWait, kc_MustWait⟩,
    excc_MustWait := ⟨ga_MustWait, gg_MustWait, xb_MustWait, hd_MustWait, ha_MustWait, z_hn, z_ht, hm_MustWait⟩,
    xfc_MustWait := ⟨ga_MustWait, gg_MustWait, xb_MustWait, hd_MustWait⟩,
    exm_MustWait_StampError := PySem.W.exm_ref xb_StampError hd_StampError xt_StampError sb_MustWait_StampError,
    kit_MustWait_StampError := ko_MustWait_StampError,
    exm_MustWait_BadStamp := PySem.W.exm_ref xb_BadStamp hd_BadStamp xt_BadStamp sb_MustWait_BadStamp,
    kit_MustWait_BadStamp := ko_MustWait_BadStamp,
    exm_MustWait_BadEntry := PySem.W.exm_ref xb_BadEntry hd_BadEntry xt_BadEntry sb_MustWait_BadEntry,
    kit_MustWait_BadEntry := ko_MustWait_BadEntry,
    exm_MustWait_BadAnswer := PySem.W.exm_ref xb_BadAnswer hd_BadAnswer xt_BadAnswer sb_MustWait_BadAnswer,
    kit_MustWait_BadAnswer := ko_MustWait_BadAnswer,
    exm_MustWait_BadSetting := PySem.W.exm_ref xb_BadSetting hd_BadSetting xt_BadSetting sb_MustWait_BadSetting,
    kit_MustWait_BadSetting := ko_MustWait_BadSetting,
    exm_MustWait_BadStep := PySem.W.exm_ref xb_BadStep hd_BadStep xt_BadStep sb_MustWait_BadStep,
    kit_MustWait_BadStep := ko_MustWait_BadStep,
    exm_MustWait_Finished := PySem.W.exm_ref xb_Finished hd_Finished xt_Finished sb_MustWait_Finished,
    kit_MustWait_Finished := ko_MustWait_Finished,
    exm_MustWait_MustWait := PySem.W.exm_ref xb_MustWait hd_MustWait xt_MustWait sb_MustWait_MustWait,
    kit_MustWait_MustWait := ko_MustWait_MustWait,
    exm_MustWait_TooLate := PySem.W.exm_ref xb_TooLate hd_TooLate xt_TooLate sb_MustWait_TooLate,
    kit_MustWait_TooLate := ko_MustWait_TooLate,
    exm_MustWait_BrokenOff := PySem.W.exm_ref xb_BrokenOff hd_BrokenOff xt_BrokenOff sb_MustWait_BrokenOff,
    kit_MustWait_BrokenOff := ko_MustWait_BrokenOff,
    kit_MustWait_VE := kv_MustWait,
    na_MustWait_holders := na_MustWait_holders,
    na_MustWait_stamp := na_MustWait_stamp,
    oex_TooLate := ⟨⟨_, _, _, _, _, _, _, _, _, _, _, _, _, _, _, xl_TooLate, rfl⟩, sa_TooLate, xb_TooLate, xt_TooLate, kc_TooLate⟩,
    excc_TooLate := ⟨ga_TooLate, gg_TooLate, xb_TooLate, hd_TooLate, ha_TooLate, z_hn, z_ht, hm_TooLate⟩,
    xfc_TooLate := ⟨ga_TooLate, gg_TooLate, xb_TooLate, hd_TooLate⟩,
    exm_TooLate_StampError := PySem.W.exm_ref xb_StampError hd_StampError xt_StampError sb_TooLate_StampError,
    kit_TooLate_StampError := ko_TooLate_StampError,
    exm_TooLate_BadStamp := PySem.W.exm_ref xb_BadStamp hd_BadStamp xt_BadStamp sb_TooLate_BadStamp,
    kit_TooLate_BadStamp := ko_TooLate_BadStamp,
    exm_TooLate_BadEntry := PySem.W.exm_ref xb_BadEntry hd_BadEntry xt_BadEntry sb_TooLate_BadEntry,
    kit_TooLate_BadEntry := ko_TooLate_BadEntry,
    exm_TooLate_BadAnswer := PySem.W.exm_ref xb_BadAnswer hd_BadAnswer xt_BadAnswer sb_TooLate_BadAnswer,
    kit_TooLate_BadAnswer := ko_TooLate_BadAnswer,
    exm_TooLate_BadSetting := PySem.W.exm_ref xb_BadSetting hd_BadSetting xt_BadSetting sb_TooLate_BadSetting,
    kit_TooLate_BadSetting := ko_TooLate_BadSetting,
    exm_TooLate_BadStep := PySem.W.exm_ref xb_BadStep hd_BadStep xt_BadStep sb_TooLate_BadStep,
    kit_TooLate_BadStep := ko_TooLate_BadStep,
    exm_TooLate_Finished := PySem.W.exm_ref xb_Finished hd_Finished xt_Finished sb_TooLate_Finished,
    kit_TooLate_Finished := ko_TooLate_Finished,
    exm_TooLate_MustWait := PySem.W.exm_ref xb_MustWait hd_MustWait xt_MustWait sb_TooLate_MustWait,
    kit_TooLate_MustWait := ko_TooLate_MustWait,
    exm_TooLate_TooLate := PySem.W.exm_ref xb_TooLate hd_TooLate xt_TooLate sb_TooLate_TooLate,
    kit_TooLate_TooLate := ko_TooLate_TooLate,
    exm_TooLate_BrokenOff := PySem.W.exm_ref xb_BrokenOff hd_BrokenOff xt_BrokenOff sb_TooLate_BrokenOff,
    kit_TooLate_BrokenOff := ko_TooLate_BrokenOff,
    kit_TooLate_VE := kv_TooLate,
    na_TooLate_entry := na_TooLate_entry,
    oex_BrokenOff := ⟨⟨_, _, _, _, _, _, _, _, _, _, _, _, _, _, _, xl_BrokenOff, rfl⟩, sa_BrokenOff, xb_BrokenOff, xt_BrokenOff, kc_BrokenOff⟩,
    excc_BrokenOff := ⟨ga_BrokenOff, gg_BrokenOff, xb_BrokenOff, hd_BrokenOff, ha_BrokenOff, z_hn, z_ht, hm_BrokenOff⟩,
    xfc_BrokenOff := ⟨ga_BrokenOff, gg_BrokenOff, xb_BrokenOff, hd_BrokenOff⟩,
    exm_BrokenOff_StampError := PySem.W.exm_ref xb_StampError hd_StampError xt_StampError sb_BrokenOff_StampError,
    kit_BrokenOff_StampError := ko_BrokenOff_StampError,
    exm_BrokenOff_BadStamp := PySem.W.exm_ref xb_BadStamp hd_BadStamp xt_BadStamp sb_BrokenOff_BadStamp,
    kit_BrokenOff_BadStamp := ko_BrokenOff_BadStamp,
    exm_BrokenOff_BadEntry := PySem.W.exm_ref xb_BadEntry hd_BadEntry xt_BadEntry sb_BrokenOff_BadEntry,
    kit_BrokenOff_BadEntry := ko_BrokenOff_BadEntry,
    exm_BrokenOff_BadAnswer := PySem.W.exm_ref xb_BadAnswer hd_BadAnswer xt_BadAnswer sb_BrokenOff_BadAnswer,
    kit_BrokenOff_BadAnswer := ko_BrokenOff_BadAnswer,
    exm_BrokenOff_BadSetting := PySem.W.exm_ref xb_BadSetting hd_BadSetting xt_BadSetting sb_BrokenOff_BadSetting,
    kit_BrokenOff_BadSetting := ko_BrokenOff_BadSetting,
    exm_BrokenOff_BadStep := PySem.W.exm_ref xb_BadStep hd_BadStep xt_BadStep sb_BrokenOff_BadStep,
    kit_BrokenOff_BadStep := ko_BrokenOff_BadStep,
    exm_BrokenOff_Finished := PySem.W.exm_ref xb_Finished hd_Finished xt_Finished sb_BrokenOff_Finished,
    kit_BrokenOff_Finished := ko_BrokenOff_Finished,
    exm_BrokenOff_MustWait := PySem.W.exm_ref xb_MustWait hd_MustWait xt_MustWait sb_BrokenOff_MustWait,
    kit_BrokenOff_MustWait := ko_BrokenOff_MustWait,
    exm_BrokenOff_TooLate := PySem.W.exm_ref xb_TooLate hd_TooLate xt_TooLate sb_BrokenOff_TooLate,
    kit_BrokenOff_TooLate := ko_BrokenOff_TooLate,
    exm_BrokenOff_BrokenOff := PySem.W.exm_ref xb_BrokenOff hd_BrokenOff xt_BrokenOff sb_BrokenOff_BrokenOff,
    kit_BrokenOff_BrokenOff := ko_BrokenOff_BrokenOff,
    kit_BrokenOff_VE := kv_BrokenOff,
    na_BrokenOff_stamp := na_BrokenOff_stamp,
    cl_Stamp := ⟨pg_Stamp, hd_Stamp, po_Stamp, sa_Stamp⟩,
    isi_Stamp := ⟨ha_Stamp, hm_Stamp⟩,
    kit_Stamp := ko_Stamp,
    na_Stamp_number := na_Stamp_number,
    cl_Item := ⟨pg_Item, hd_Item, po_Item, sa_Item⟩,
    isi_Item := ⟨ha_Item, hm_Item⟩,
    kit_Item := ko_Item,
    na_Item_holder := na_Item_holder,
    na_Item_kept := na_Item_kept,
    na_Item_reader := na_Item_reader,
    na_Item_value := na_Item_value,
    cl_State := ⟨pg_State, hd_State, po_State, sa_State⟩,
    isi_State := ⟨ha_State, hm_State⟩,
    kit_State := ko_State,
    na_State_bonds := na_State_bonds,
    na_State_over := na_State_over,
    na_State_store := na_State_store,
    cl_Desk := ⟨pg_Desk, hd_Desk, po_Desk, sa_Desk⟩,
    isi_Desk := ⟨ha_Desk, hm_Desk⟩,
    kit_Desk := ko_Desk,
    na_Desk_begun := na_Desk_begun,
    na_Desk_book := na_Desk_book,
    na_Desk_greatest := na_Desk_greatest,
    na_Desk_left := na_Desk_left,
    na_Desk_state := na_Desk_state,
    cl_Reader := ⟨pg_Reader, hd_Reader, po_Reader, sa_Reader⟩,
    isi_Reader := ⟨ha_Reader, hm_Reader⟩,
    kit_Reader := ko_Reader,
    cl_Writer := ⟨pg_Writer, hd_Writer, po_Writer, sa_Writer⟩,
    isi_Writer := ⟨ha_Writer, hm_Writer⟩,
    kit_Writer := ko_Writer,
    cl_Transaction := ⟨pg_Transaction, hd_Transaction, po_Transaction, sa_Transaction⟩,
    isi_Transaction := ⟨ha_Transaction, hm_Transaction⟩,
    kit_Transaction := ko_Transaction,
    kit_Transaction_Reader := ko_Transaction_Reader,
    kit_Transaction_Writer := ko_Transaction_Writer,
    na_Transaction_desk := na_Transaction_desk,
    na_Transaction_left := na_Transaction_left,
    na_Transaction_number := na_Transaction_number,
    na_Transaction_stamp := na_Transaction_stamp,
    cl_Book := ⟨pg_Book, hd_Book, po_Book, sa_Book⟩,
    isi_Book := ⟨ha_Book, hm_Book⟩,
    kit_Book := ko_Book,
    na_Book__answers := na_Book__answers,
    na_Book__ends := na_Book__ends,
    na_Book__keep := na_Book__keep,
    f_BadStamp_init := f_BadStamp_init,
    d_BadStamp_init := PySem.W.fnX "__init__" "BadStamp.__init__" (defArgs s_BadStamp_init) (defBody s_BadStamp_init) (defScope s_BadStamp_init) [(("__class__" : Str), cc_BadStamp_init)] .none kV_BadStamp_init dc_BadStamp_init pm_BadStamp_init an_BadStamp_init (.ref cdr_BadStamp_init) ct_BadStamp_init,
    cc_BadStamp_init := cc_BadStamp_init,
    cdr_BadStamp_init := cdr_BadStamp_init,
    S_BadStamp_init := ⟨⟨⟨_, _, _, _, _, _, _, _, _, _, _, _, _, _, _, xl_BadStamp, rfl⟩, sa_BadStamp, xb_BadStamp, xt_BadStamp, kc_BadStamp⟩, su_BadStamp_init, ve_BadStamp_init, md_BadStamp_init, z_th, PySem.W.mg_none_of X G z_su, rfl, rfl, ⟨_, _, _, _, _, _, _, _, rfl, l_BadStamp_init⟩, ⟨_, _, _, _, _, _, cv_BadStamp_init, cw_BadStamp_init, cx_BadStamp_init⟩, c_BadStamp_init, ⟨_, _, _, cl_BadStamp_init⟩, tp_BadStamp_init⟩,
    i_BadStamp_init := a_BadStamp_init,
    t_BadStamp_init := ti_BadStamp_init,
    f_BadEntry_init := f_BadEntry_init,
    d_BadEntry_init := PySem.W.fnX "__init__" "BadEntry.__init__" (defArgs s_BadEntry_init) (defBody s_BadEntry_init) (defScope s_BadEntry_init) [(("__class__" : Str), cc_BadEntry_init)] .none kV_BadEntry_init dc_BadEntry_init pm_BadEntry_init an_BadEntry_init (.ref cdr_BadEntry_init) ct_BadEntry_init,
    cc_BadEntry_init := cc_BadEntry_init,
    cdr_BadEntry_init := cdr_BadEntry_init,
    S_BadEntry_init := ⟨⟨⟨_, _, _, _, _, _, _, _, _, _, _, _, _, _, _, xl_BadEntry, rfl⟩, sa_BadEntry, xb_BadEntry, xt_BadEntry, kc_BadEntry⟩, su_BadEntry_init, ve_BadEntry_init, md_BadEntry_init, z_th, PySem.W.mg_none_of X G z_su, rfl, rfl, ⟨_, _, _, _, _, _, _, _, rfl, l_BadEntry_init⟩, ⟨_, _, _, _, _, _, cv_BadEntry_init, cw_BadEntry_init, cx_BadEntry_init⟩, c_BadEntry_init, ⟨_, _, _, cl_BadEntry_init⟩, tp_BadEntry_init⟩,
    i_BadEntry_init := a_BadEntry_init,
    t_BadEntry_init := ti_BadEntry_init,
    f_BadAnswer_init := f_BadAnswer_init,
    d_BadAnswer_init := PySem.W.fnX "__init__" "BadAnswer.__init__" (defArgs s_BadAnswer_init) (defBody s_BadAnswer_init) (defScope s_BadAnswer_init) [(("__class__" : Str), cc_BadAnswer_init)] .none kV_BadAnswer_init dc_BadAnswer_init pm_BadAnswer_init an_BadAnswer_init (.ref cdr_BadAnswer_init) ct_BadAnswer_init,
    cc_BadAnswer_init := cc_BadAnswer_init,
    cdr_BadAnswer_init := cdr_BadAnswer_init,
    S_BadAnswer_init := ⟨⟨⟨_, _, _, _, _, _, _, _, _, _, _, _, _, _, _, xl_BadAnswer, rfl⟩, sa_BadAnswer, xb_BadAnswer, xt_BadAnswer, kc_BadAnswer⟩, su_BadAnswer_init, ve_BadAnswer_init, md_BadAnswer_init, z_th, PySem.W.mg_none_of X G z_su, rfl, rfl, ⟨_, _, _, _, _, _, _, _, rfl, l_BadAnswer_init⟩, ⟨_, _, _, _, _, _, cv_BadAnswer_init, cw_BadAnswer_init, cx_BadAnswer_init⟩, c_BadAnswer_init, ⟨_, _, _, cl_BadAnswer_init⟩, tp_BadAnswer_init⟩,
    i_BadAnswer_init := a_BadAnswer_init,
    t_BadAnswer_init := ti_BadAnswer_init,
    f_BadSetting_init := f_BadSetting_init,
    d_BadSetting_init := PySem.W.fnX "__init__" "BadSetting.__init__" (defArgs s_BadSetting_init) (defBody s_BadSetting_init) (defScope s_BadSetting_init) [(("__class__" : Str), cc_BadSetting_init)] .none kV_BadSetting_init dc_BadSetting_init pm_BadSetting_init an_BadSetting_init (.ref cdr_BadSetting_init) ct_BadSetting_init,
    cc_BadSetting_init := cc_BadSetting_init,
    cdr_BadSetting_init := cdr_BadSetting_init,
    S_BadSetting_init := ⟨⟨⟨_, _, _, _, _, _, _, _, _, _, _, _, _, _, _, xl_BadSetting, rfl⟩, sa_BadSetting, xb_BadSetting, xt_BadSetting, kc_BadSetting⟩, su_BadSetting_init, ve_BadSetting_init, md_BadSetting_init, z_th, PySem.W.mg_none_of X G z_su, rfl, rfl, ⟨_, _, _, _, _, _, _, _, rfl, l_BadSetting_init⟩, ⟨_, _, _, _, _, _, cv_BadSetting_init, cw_BadSetting_init, cx_BadSetting_init⟩, c_BadSetting_init, ⟨_, _, _, cl_BadSetting_init⟩, tp_BadSetting_init⟩,
    i_BadSetting_init := a_BadSetting_init,
    t_BadSetting_init := ti_BadSetting_init,
    f_BadStep_init := f_BadStep_init,
    d_BadStep_init := PySem.W.fnX "__init__" "BadStep.__init__" (defArgs s_BadStep_init) (defBody s_BadStep_init) (defScope s_BadStep_init) [(("__class__" : Str), cc_BadStep_init)] .none kV_BadStep_init dc_BadStep_init pm_BadStep_init an_BadStep_init (.ref cdr_BadStep_init) ct_BadStep_init,
    cc_BadStep_init := cc_BadStep_init,
    cdr_BadStep_init := cdr_BadStep_init,
    S_BadStep_init := ⟨⟨⟨_, _, _, _, _, _, _, _, _, _, _, _, _, _, _, xl_BadStep, rfl⟩, sa_BadStep, xb_BadStep, xt_BadStep, kc_BadStep⟩, su_BadStep_init, ve_BadStep_init, md_BadStep_init, z_th, PySem.W.mg_none_of X G z_su, rfl, rfl, ⟨_, _, _, _, _, _, _, _, rfl, l_BadStep_init⟩, ⟨_, _, _, _, _, _, cv_BadStep_init, cw_BadStep_init, cx_BadStep_init⟩, c_BadStep_init, ⟨_, _, _, cl_BadStep_init⟩, tp_BadStep_init⟩,
    i_BadStep_init := a_BadStep_init,
    t_BadStep_init := ti_BadStep_init,
    f_Finished_init := f_Finished_init,
    d_Finished_init := PySem.W.fnX "__init__" "Finished.__init__" (defArgs s_Finished_init) (defBody s_Finished_init) (defScope s_Finished_init) [(("__class__" : Str), cc_Finished_init)] .none kV_Finished_init dc_Finished_init pm_Finished_init an_Finished_init (.ref cdr_Finished_init) ct_Finished_init,
    cc_Finished_init := cc_Finished_init,
    cdr_Finished_init := cdr_Finished_init,
    S_Finished_init := ⟨⟨⟨_, _, _, _, _, _, _, _, _, _, _, _, _, _, _, xl_Finished, rfl⟩, sa_Finished, xb_Finished, xt_Finished, kc_Finished⟩, su_Finished_init, ve_Finished_init, md_Finished_init, z_th, PySem.W.mg_none_of X G z_su, rfl, rfl, ⟨_, _, _, _, _, _, _, _, rfl, l_Finished_init⟩, ⟨_, _, _, _, _, _, cv_Finished_init, cw_Finished_init, cx_Finished_init⟩, c_Finished_init, ⟨_, _, _, cl_Finished_init⟩, tp_Finished_init⟩,
    i_Finished_init := a_Finished_init,
    t_Finished_init := ti_Finished_init,
    f_MustWait_init := f_MustWait_init,
    d_MustWait_init := PySem.W.fnX "__init__" "MustWait.__init__" (defArgs s_MustWait_init) (defBody s_MustWait_init) (defScope s_MustWait_init) [(("__class__" : Str), cc_MustWait_init)] .none kV_MustWait_init dc_MustWait_init pm_MustWait_init an_MustWait_init (.ref cdr_MustWait_init) ct_MustWait_init,
    cc_MustWait_init := cc_MustWait_init,
    cdr_MustWait_init := cdr_MustWait_init,
    S_MustWait_init := ⟨⟨⟨_, _, _, _, _, _, _, _, _, _, _, _, _, _, _, xl_MustWait, rfl⟩, sa_MustWait, xb_MustWait, xt_MustWait, kc_MustWait⟩, su_MustWait_init, ve_MustWait_init, md_MustWait_init, z_th, PySem.W.mg_none_of X G z_su, rfl, rfl, ⟨_, _, _, _, _, _, _, _, rfl, l_MustWait_init⟩, ⟨_, _, _, _, _, _, cv_MustWait_init, cw_MustWait_init, cx_MustWait_init⟩, c_MustWait_init, ⟨_, _, _, cl_MustWait_init⟩, tp_MustWait_init⟩,
    i_MustWait_init := a_MustWait_init,
    t_MustWait_init := ti_MustWait_init,
    f_TooLate_init := f_TooLate_init,
    d_TooLate_init := PySem.W.fnX "__init__" "TooLate.__init__" (defArgs s_TooLate_init) (defBody s_TooLate_init) (defScope s_TooLate_init) [(("__class__" : Str), cc_TooLate_init)] .none kV_TooLate_init dc_TooLate_init pm_TooLate_init an_TooLate_init (.ref cdr_TooLate_init) ct_TooLate_init,
    cc_TooLate_init := cc_TooLate_init,
    cdr_TooLate_init := cdr_TooLate_init,
    S_TooLate_init := ⟨⟨⟨_, _, _, _, _, _, _, _, _, _, _, _, _, _, _, xl_TooLate, rfl⟩, sa_TooLate, xb_TooLate, xt_TooLate, kc_TooLate⟩, su_TooLate_init, ve_TooLate_init, md_TooLate_init, z_th, PySem.W.mg_none_of X G z_su, rfl, rfl, ⟨_, _, _, _, _, _, _, _, rfl, l_TooLate_init⟩, ⟨_, _, _, _, _, _, cv_TooLate_init, cw_TooLate_init, cx_TooLate_init⟩, c_TooLate_init, ⟨_, _, _, cl_TooLate_init⟩, tp_TooLate_init⟩,
    i_TooLate_init := a_TooLate_init,
    t_TooLate_init := ti_TooLate_init,
    f_BrokenOff_init := f_BrokenOff_init,
    d_BrokenOff_init := PySem.W.fnX "__init__" "BrokenOff.__init__" (defArgs s_BrokenOff_init) (defBody s_BrokenOff_init) (defScope s_BrokenOff_init) [(("__class__" : Str), cc_BrokenOff_init)] .none kV_BrokenOff_init dc_BrokenOff_init pm_BrokenOff_init an_BrokenOff_init (.ref cdr_BrokenOff_init) ct_BrokenOff_init,
    cc_BrokenOff_init := cc_BrokenOff_init,
    cdr_BrokenOff_init := cdr_BrokenOff_init,
    S_BrokenOff_init := ⟨⟨⟨_, _, _, _, _, _, _, _, _, _, _, _, _, _, _, xl_BrokenOff, rfl⟩, sa_BrokenOff, xb_BrokenOff, xt_BrokenOff, kc_BrokenOff⟩, su_BrokenOff_init, ve_BrokenOff_init, md_BrokenOff_init, z_th, PySem.W.mg_none_of X G z_su, rfl, rfl, ⟨_, _, _, _, _, _, _, _, rfl, l_BrokenOff_init⟩, ⟨_, _, _, _, _, _, cv_BrokenOff_init, cw_BrokenOff_init, cx_BrokenOff_init⟩, c_BrokenOff_init, ⟨_, _, _, cl_BrokenOff_init⟩, tp_BrokenOff_init⟩,
    i_BrokenOff_init := a_BrokenOff_init,
    t_BrokenOff_init := ti_BrokenOff_init,
    f_Stamp_init := f_Stamp_init,
    d_Stamp_init := PySem.W.fnOf "__init__" "Stamp.__init__" (defArgs s_Stamp_init) (defBody s_Stamp_init) (defScope s_Stamp_init) .none kV_Stamp_init dc_Stamp_init pm_Stamp_init an_Stamp_init cd_Stamp_init ct_Stamp_init,
    F_Stamp_init := fun_mk l_Stamp_init c_Stamp_init k_Stamp_init,
    m_Stamp_init := ⟨a_Stamp_init, fn_Stamp_init, k_Stamp_init⟩,
    mk_Stamp := ⟨mk_Stamp, a_Stamp_init, fn_Stamp_init, kc_Stamp⟩,
    f_Stamp_lt := f_Stamp_lt,
    d_Stamp_lt := PySem.W.fnOf "__lt__" "Stamp.__lt__" (defArgs s_Stamp_lt) (defBody s_Stamp_lt) (defScope s_Stamp_lt) .none kV_Stamp_lt dc_Stamp_lt pm_Stamp_lt an_Stamp_lt cd_Stamp_lt ct_Stamp_lt,
    F_Stamp_lt := fun_mk l_Stamp_lt c_Stamp_lt k_Stamp_lt,
    m_Stamp_lt := ⟨a_Stamp_lt, fn_Stamp_lt, k_Stamp_lt⟩,
    f_Item_init := f_Item_init,
    d_Item_init := PySem.W.fnOf "__init__" "Item.__init__" (defArgs s_Item_init) (defBody s_Item_init) (defScope s_Item_init) .none kV_Item_init dc_Item_init pm_Item_init an_Item_init cd_Item_init ct_Item_init,
    F_Item_init := fun_mk l_Item_init c_Item_init k_Item_init,
    m_Item_init := ⟨a_Item_init, fn_Item_init, k_Item_init⟩,
    mk_Item := ⟨mk_Item, a_Item_init, fn_Item_init, kc_Item⟩,
    f_State_init := f_State_init,
    d_State_init := PySem.W.fnOf "__init__" "State.__init__" (defArgs s_State_init) (defBody s_State_init) (defScope s_State_init) .none kV_State_init dc_State_init pm_State_init an_State_init cd_State_init ct_State_init,
    F_State_init := fun_mk l_State_init c_State_init k_State_init,
    m_State_init := ⟨a_State_init, fn_State_init, k_State_init⟩,
    mk_State := ⟨mk_State, a_State_init, fn_State_init, kc_State⟩,
    f_Desk_init := f_Desk_init,
    d_Desk_init := PySem.W.fnOf "__init__" "Desk.__init__" (defArgs s_Desk_init) (defBody s_Desk_init) (defScope s_Desk_init) .none kV_Desk_init dc_Desk_init pm_Desk_init an_Desk_init cd_Desk_init ct_Desk_init,
    F_Desk_init := fun_mk l_Desk_init c_Desk_init k_Desk_init,
    m_Desk_init := ⟨a_Desk_init, fn_Desk_init, k_Desk_init⟩,
    mk_Desk := ⟨mk_Desk, a_Desk_init, fn_Desk_init, kc_Desk⟩,
    f_Desk_begin := f_Desk_begin,
    d_Desk_begin := PySem.W.fnOf "begin" "Desk.begin" (defArgs s_Desk_begin) (defBody s_Desk_begin) (defScope s_Desk_begin) .none (.ref KD_Desk_begin) dc_Desk_begin pm_Desk_begin an_Desk_begin cd_Desk_begin ct_Desk_begin,
    F_Desk_begin := ⟨⟨_, _, _, _, _, _, _, _, _, _, rfl, l_Desk_begin, c_Desk_begin, .inl ⟨rfl, rfl⟩, .inr ⟨_, rfl, fun q hq => by
      simp only [List.mem_cons, List.not_mem_nil, or_false] at hq
      rcases hq with rfl
      · exact ⟨_, kw0_Desk_begin, rfl⟩⟩⟩, k_Desk_begin⟩,
    m_Desk_begin := ⟨a_Desk_begin, fn_Desk_begin, k_Desk_begin⟩,
    f_Desk_state_of := f_Desk_state_of,
    d_Desk_state_of := PySem.W.fnOf "state_of" "Desk.state_of" (defArgs s_Desk_state_of) (defBody s_Desk_state_of) (defScope s_Desk_state_of) .none kV_Desk_state_of dc_Desk_state_of pm_Desk_state_of an_Desk_state_of cd_Desk_state_of ct_Desk_state_of,
    F_Desk_state_of := fun_mk l_Desk_state_of c_Desk_state_of k_Desk_state_of,
    m_Desk_state_of := ⟨a_Desk_state_of, fn_Desk_state_of, k_Desk_state_of⟩,
    f_Desk_settle := f_Desk_settle,
    d_Desk_settle := PySem.W.fnOf "settle" "Desk.settle" (defArgs s_Desk_settle) (defBody s_Desk_settle) (defScope s_Desk_settle) .none kV_Desk_settle dc_Desk_settle pm_Desk_settle an_Desk_settle cd_Desk_settle ct_Desk_settle,
    F_Desk_settle := fun_mk l_Desk_settle c_Desk_settle k_Desk_settle,
    m_Desk_settle := ⟨a_Desk_settle, fn_Desk_settle, k_Desk_settle⟩,
    f_Desk_take := f_Desk_take,
    d_Desk_take := PySem.W.fnOf "take" "Desk.take" (defArgs s_Desk_take) (defBody s_Desk_take) (defScope s_Desk_take) .none kV_Desk_take dc_Desk_take pm_Desk_take an_Desk_take cd_Desk_take ct_Desk_take,
    F_Desk_take := fun_mk l_Desk_take c_Desk_take k_Desk_take,
    m_Desk_take := ⟨a_Desk_take, fn_Desk_take, k_Desk_take⟩,
    f_Desk_ask := f_Desk_ask,
    d_Desk_ask := PySem.W.fnOf "ask" "Desk.ask" (defArgs s_Desk_ask) (defBody s_Desk_ask) (defScope s_Desk_ask) .none kV_Desk_ask dc_Desk_ask pm_Desk_ask an_Desk_ask cd_Desk_ask ct_Desk_ask,
    F_Desk_ask := fun_mk l_Desk_ask c_Desk_ask k_Desk_ask,
    m_Desk_ask := ⟨a_Desk_ask, fn_Desk_ask, k_Desk_ask⟩,
    f_Reader_read := f_Reader_read,
    d_Reader_read := PySem.W.fnOf "read" "Reader.read" (defArgs s_Reader_read) (defBody s_Reader_read) (defScope s_Reader_read) .none kV_Reader_read dc_Reader_read pm_Reader_read an_Reader_read cd_Reader_read ct_Reader_read,
    F_Reader_read := fun_mk l_Reader_read c_Reader_read k_Reader_read,
    m_Reader_read := ⟨a_Reader_read, fn_Reader_read, k_Reader_read⟩,
    mi_Transaction_read := ⟨ai_Transaction_read, fn_Reader_read, k_Reader_read⟩,
    f_Writer_write := f_Writer_write,
    d_Writer_write := PySem.W.fnOf "write" "Writer.write" (defArgs s_Writer_write) (defBody s_Writer_write) (defScope s_Writer_write) .none kV_Writer_write dc_Writer_write pm_Writer_write an_Writer_write cd_Writer_write ct_Writer_write,
    F_Writer_write := fun_mk l_Writer_write c_Writer_write k_Writer_write,
    m_Writer_write := ⟨a_Writer_write, fn_Writer_write, k_Writer_write⟩,
    mi_Transaction_write := ⟨ai_Transaction_write, fn_Writer_write, k_Writer_write⟩,
    f_Transaction_init := f_Transaction_init,
    d_Transaction_init := PySem.W.fnOf "__init__" "Transaction.__init__" (defArgs s_Transaction_init) (defBody s_Transaction_init) (defScope s_Transaction_init) .none kV_Transaction_init dc_Transaction_init pm_Transaction_init an_Transaction_init cd_Transaction_init ct_Transaction_init,
    F_Transaction_init := fun_mk l_Transaction_init c_Transaction_init k_Transaction_init,
    m_Transaction_init := ⟨a_Transaction_init, fn_Transaction_init, k_Transaction_init⟩,
    mk_Transaction := ⟨mk_Transaction, a_Transaction_init, fn_Transaction_init, kc_Transaction⟩,
    f_Transaction_commit := f_Transaction_commit,
    d_Transaction_commit := PySem.W.fnOf "commit" "Transaction.commit" (defArgs s_Transaction_commit) (defBody s_Transaction_commit) (defScope s_Transaction_commit) .none kV_Transaction_commit dc_Transaction_commit pm_Transaction_commit an_Transaction_commit cd_Transaction_commit ct_Transaction_commit,
    F_Transaction_commit := fun_mk l_Transaction_commit c_Transaction_commit k_Transaction_commit,
    m_Transaction_commit := ⟨a_Transaction_commit, fn_Transaction_commit, k_Transaction_commit⟩,
    f_Transaction_abort := f_Transaction_abort,
    d_Transaction_abort := PySem.W.fnOf "abort" "Transaction.abort" (defArgs s_Transaction_abort) (defBody s_Transaction_abort) (defScope s_Transaction_abort) .none kV_Transaction_abort dc_Transaction_abort pm_Transaction_abort an_Transaction_abort cd_Transaction_abort ct_Transaction_abort,
    F_Transaction_abort := fun_mk l_Transaction_abort c_Transaction_abort k_Transaction_abort,
    m_Transaction_abort := ⟨a_Transaction_abort, fn_Transaction_abort, k_Transaction_abort⟩,
    f_Book_init := f_Book_init,
    d_Book_init := PySem.W.fnOf "__init__" "Book.__init__" (defArgs s_Book_init) (defBody s_Book_init) (defScope s_Book_init) (.ref T_Book_init) (.ref KD_Book_init) dc_Book_init pm_Book_init an_Book_init cd_Book_init ct_Book_init,
    F_Book_init := ⟨⟨_, _, _, _, _, _, _, _, _, _, rfl, l_Book_init, c_Book_init, .inr ⟨by simp, _, _, [.none], _, rfl, T1_Book_init, rfl, .cons rfl (.nil)⟩, .inr ⟨_, rfl, fun q hq => by
      simp only [List.mem_cons, List.not_mem_nil, or_false] at hq
      rcases hq with rfl | rfl
      · exact ⟨_, kw0_Book_init, ⟨_, rfl⟩⟩
      · exact ⟨_, kw1_Book_init, ⟨_, rfl⟩⟩⟩⟩, k_Book_init⟩,
    m_Book_init := ⟨a_Book_init, fn_Book_init, k_Book_init⟩,
    mk_Book := ⟨mk_Book, a_Book_init, fn_Book_init, kc_Book⟩,
    f_Book_ends := f_Book_ends,
    pr_Book_ends := pr_Book_ends,
    p_Book_ends := ⟨a_Book_ends, pg_Book_ends, pt_Book_ends, ⟨_, pc_Book_ends⟩⟩,
    d_Book_ends := PySem.W.fnOf "ends" "Book.ends" (defArgs s_Book_ends) (defBody s_Book_ends) (defScope s_Book_ends) .none kV_Book_ends dc_Book_ends pm_Book_ends an_Book_ends cd_Book_ends ct_Book_ends,
    F_Book_ends := fun_mk l_Book_ends c_Book_ends k_Book_ends,
    f_Book_keep := f_Book_keep,
    pr_Book_keep := pr_Book_keep,
    p_Book_keep := ⟨a_Book_keep, pg_Book_keep, pt_Book_keep, ⟨_, pc_Book_keep⟩⟩,
    d_Book_keep := PySem.W.fnOf "keep" "Book.keep" (defArgs s_Book_keep) (defBody s_Book_keep) (defScope s_Book_keep) .none kV_Book_keep dc_Book_keep pm_Book_keep an_Book_keep cd_Book_keep ct_Book_keep,
    F_Book_keep := fun_mk l_Book_keep c_Book_keep k_Book_keep,
    f_Book_copy := f_Book_copy,
    d_Book_copy := PySem.W.fnOf "copy" "Book.copy" (defArgs s_Book_copy) (defBody s_Book_copy) (defScope s_Book_copy) .none kV_Book_copy dc_Book_copy pm_Book_copy an_Book_copy cd_Book_copy ct_Book_copy,
    F_Book_copy := fun_mk l_Book_copy c_Book_copy k_Book_copy,
    m_Book_copy := ⟨a_Book_copy, fn_Book_copy, k_Book_copy⟩,
    f_Book_getitem := f_Book_getitem,
    d_Book_getitem := PySem.W.fnOf "__getitem__" "Book.__getitem__" (defArgs s_Book_getitem) (defBody s_Book_getitem) (defScope s_Book_getitem) .none kV_Book_getitem dc_Book_getitem pm_Book_getitem an_Book_getitem cd_Book_getitem ct_Book_getitem,
    F_Book_getitem := fun_mk l_Book_getitem c_Book_getitem k_Book_getitem,
    m_Book_getitem := ⟨a_Book_getitem, fn_Book_getitem, k_Book_getitem⟩,
    nd_Book := nd_Book,
    fi_Book_getitem := fi_Book_getitem,
    f_is_stamp := f_is_stamp,
    d_is_stamp := PySem.W.fnOf "is_stamp" "is_stamp" (defArgs s_is_stamp) (defBody s_is_stamp) (defScope s_is_stamp) (.ref T_is_stamp) kV_is_stamp dc_is_stamp pm_is_stamp an_is_stamp cd_is_stamp ct_is_stamp,
    F_is_stamp := ⟨⟨_, _, _, _, _, _, _, _, _, _, rfl, l_is_stamp, c_is_stamp, .inr ⟨by simp, _, _, [.int 0 tk0_is_stamp], _, rfl, T1_is_stamp, rfl, .cons ⟨_, rfl⟩ (.nil)⟩, .inl rfl⟩, k_is_stamp⟩,
    g_is_stamp := PySem.W.mg_of X G a_is_stamp,
    f_place := f_place,
    d_place := PySem.W.fnOf "place" "place" (defArgs s_place) (defBody s_place) (defScope s_place) .none kV_place dc_place pm_place an_place cd_place ct_place,
    F_place := fun_mk l_place c_place k_place,
    g_place := PySem.W.mg_of X G a_place,
    f_first_state := f_first_state,
    d_first_state := PySem.W.fnOf "first_state" "first_state" (defArgs s_first_state) (defBody s_first_state) (defScope s_first_state) .none kV_first_state dc_first_state pm_first_state an_first_state cd_first_state ct_first_state,
    F_first_state := fun_mk l_first_state c_first_state k_first_state,
    g_first_state := PySem.W.mg_of X G a_first_state,
    f_item_of := f_item_of,
    d_item_of := PySem.W.fnOf "item_of" "item_of" (defArgs s_item_of) (defBody s_item_of) (defScope s_item_of) .none kV_item_of dc_item_of pm_item_of an_item_of cd_item_of ct_item_of,
    F_item_of := fun_mk l_item_of c_item_of k_item_of,
    g_item_of := PySem.W.mg_of X G a_item_of,
    f_ascending := f_ascending,
    d_ascending := PySem.W.fnOf "ascending" "ascending" (defArgs s_ascending) (defBody s_ascending) (defScope s_ascending) .none kV_ascending dc_ascending pm_ascending an_ascending cd_ascending ct_ascending,
    F_ascending := fun_mk l_ascending c_ascending k_ascending,
    g_ascending := PySem.W.mg_of X G a_ascending,
    f_taken := f_taken,
    d_taken := PySem.W.fnOf "taken" "taken" (defArgs s_taken) (defBody s_taken) (defScope s_taken) .none kV_taken dc_taken pm_taken an_taken cd_taken ct_taken,
    F_taken := fun_mk l_taken c_taken k_taken,
    g_taken := PySem.W.mg_of X G a_taken,
    f_committed := f_committed,
    d_committed := PySem.W.fnOf "committed" "committed" (defArgs s_committed) (defBody s_committed) (defScope s_committed) .none kV_committed dc_committed pm_committed an_committed cd_committed ct_committed,
    F_committed := fun_mk l_committed c_committed k_committed,
    g_committed := PySem.W.mg_of X G a_committed,
    f_settled := f_settled,
    d_settled := PySem.W.fnOf "settled" "settled" (defArgs s_settled) (defBody s_settled) (defScope s_settled) .none kV_settled dc_settled pm_settled an_settled cd_settled ct_settled,
    F_settled := fun_mk l_settled c_settled k_settled,
    g_settled := PySem.W.mg_of X G a_settled,
    f_aborted := f_aborted,
    d_aborted := PySem.W.fnOf "aborted" "aborted" (defArgs s_aborted) (defBody s_aborted) (defScope s_aborted) .none kV_aborted dc_aborted pm_aborted an_aborted cd_aborted ct_aborted,
    F_aborted := fun_mk l_aborted c_aborted k_aborted,
    g_aborted := PySem.W.mg_of X G a_aborted,
    f_without := f_without,
    d_without := PySem.W.fnOf "without" "without" (defArgs s_without) (defBody s_without) (defScope s_without) .none kV_without dc_without pm_without an_without cd_without ct_without,
    F_without := fun_mk l_without c_without k_without,
    g_without := PySem.W.mg_of X G a_without,
    f_falling := f_falling,
    d_falling := PySem.W.fnOf "falling" "falling" (defArgs s_falling) (defBody s_falling) (defScope s_falling) .none kV_falling dc_falling pm_falling an_falling cd_falling ct_falling,
    F_falling := fun_mk l_falling c_falling k_falling,
    g_falling := PySem.W.mg_of X G a_falling,
    f_released := f_released,
    d_released := PySem.W.fnOf "released" "released" (defArgs s_released) (defBody s_released) (defScope s_released) .none kV_released dc_released pm_released an_released cd_released ct_released,
    F_released := fun_mk l_released c_released k_released,
    g_released := PySem.W.mg_of X G a_released,
    f_requested := f_requested,
    d_requested := PySem.W.fnOf "requested" "requested" (defArgs s_requested) (defBody s_requested) (defScope s_requested) .none kV_requested dc_requested pm_requested an_requested cd_requested ct_requested,
    F_requested := fun_mk l_requested c_requested k_requested,
    g_requested := PySem.W.mg_of X G a_requested,
    f_asked := f_asked,
    d_asked := PySem.W.fnOf "asked" "asked" (defArgs s_asked) (defBody s_asked) (defScope s_asked) .none kV_asked dc_asked pm_asked an_asked cd_asked ct_asked,
    F_asked := fun_mk l_asked c_asked k_asked,
    g_asked := PySem.W.mg_of X G a_asked,
    f_entry_met := f_entry_met,
    d_entry_met := PySem.W.fnOf "entry_met" "entry_met" (defArgs s_entry_met) (defBody s_entry_met) (defScope s_entry_met) .none kV_entry_met dc_entry_met pm_entry_met an_entry_met cd_entry_met ct_entry_met,
    F_entry_met := fun_mk l_entry_met c_entry_met k_entry_met,
    g_entry_met := PySem.W.mg_of X G a_entry_met,
    f_fixed_answer := f_fixed_answer,
    d_fixed_answer := PySem.W.fnOf "fixed_answer" "fixed_answer" (defArgs s_fixed_answer) (defBody s_fixed_answer) (defScope s_fixed_answer) .none kV_fixed_answer dc_fixed_answer pm_fixed_answer an_fixed_answer cd_fixed_answer ct_fixed_answer,
    F_fixed_answer := fun_mk l_fixed_answer c_fixed_answer k_fixed_answer,
    g_fixed_answer := PySem.W.mg_of X G a_fixed_answer,
    f_older_values := f_older_values,
    d_older_values := PySem.W.fnOf "older_values" "older_values" (defArgs s_older_values) (defBody s_older_values) (defScope s_older_values) .none kV_older_values dc_older_values pm_older_values an_older_values cd_older_values ct_older_values,
    F_older_values := fun_mk l_older_values c_older_values k_older_values,
    g_older_values := PySem.W.mg_of X G a_older_values,
    f_value_read := f_value_read,
    d_value_read := PySem.W.fnOf "value_read" "value_read" (defArgs s_value_read) (defBody s_value_read) (defScope s_value_read) .none kV_value_read dc_value_read pm_value_read an_value_read cd_value_read ct_value_read,
    F_value_read := fun_mk l_value_read c_value_read k_value_read,
    g_value_read := PySem.W.mg_of X G a_value_read,
    f_binds := f_binds,
    d_binds := PySem.W.fnOf "binds" "binds" (defArgs s_binds) (defBody s_binds) (defScope s_binds) .none kV_binds dc_binds pm_binds an_binds cd_binds ct_binds,
    F_binds := fun_mk l_binds c_binds k_binds,
    g_binds := PySem.W.mg_of X G a_binds,
    f_with_bond := f_with_bond,
    d_with_bond := PySem.W.fnOf "with_bond" "with_bond" (defArgs s_with_bond) (defBody s_with_bond) (defScope s_with_bond) .none kV_with_bond dc_with_bond pm_with_bond an_with_bond cd_with_bond ct_with_bond,
    F_with_bond := fun_mk l_with_bond c_with_bond k_with_bond,
    g_with_bond := PySem.W.mg_of X G a_with_bond,
    f_with_reader := f_with_reader,
    d_with_reader := PySem.W.fnOf "with_reader" "with_reader" (defArgs s_with_reader) (defBody s_with_reader) (defScope s_with_reader) .none kV_with_reader dc_with_reader pm_with_reader an_with_reader cd_with_reader ct_with_reader,
    F_with_reader := fun_mk l_with_reader c_with_reader k_with_reader,
    g_with_reader := PySem.W.mg_of X G a_with_reader,
    f_with_item := f_with_item,
    d_with_item := PySem.W.fnOf "with_item" "with_item" (defArgs s_with_item) (defBody s_with_item) (defScope s_with_item) .none kV_with_item dc_with_item pm_with_item an_with_item cd_with_item ct_with_item,
    F_with_item := fun_mk l_with_item c_with_item k_with_item,
    g_with_item := PySem.W.mg_of X G a_with_item,
    f_play := f_play,
    d_play := PySem.W.fnOf "play" "play" (defArgs s_play) (defBody s_play) (defScope s_play) .none kV_play dc_play pm_play an_play cd_play ct_play,
    F_play := fun_mk l_play c_play k_play,
    g_play := PySem.W.mg_of X G a_play,
    f_traced := f_traced,
    d_traced := PySem.W.fnOf "traced" "traced" (defArgs s_traced) (defBody s_traced) (defScope s_traced) .none kV_traced dc_traced pm_traced an_traced cd_traced ct_traced,
    F_traced := fun_mk l_traced c_traced k_traced,
    g_traced := PySem.W.mg_of X G a_traced,
    f_check_run := f_check_run,
    d_check_run := PySem.W.fnOf "check_run" "check_run" (defArgs s_check_run) (defBody s_check_run) (defScope s_check_run) .none kV_check_run dc_check_run pm_check_run an_check_run cd_check_run ct_check_run,
    F_check_run := fun_mk l_check_run c_check_run k_check_run,
    g_check_run := PySem.W.mg_of X G a_check_run,
    f_is_step := f_is_step,
    d_is_step := PySem.W.fnOf "is_step" "is_step" (defArgs s_is_step) (defBody s_is_step) (defScope s_is_step) .none kV_is_step dc_is_step pm_is_step an_is_step cd_is_step ct_is_step,
    F_is_step := fun_mk l_is_step c_is_step k_is_step,
    g_is_step := PySem.W.mg_of X G a_is_step,
    f_is_name := f_is_name,
    d_is_name := PySem.W.fnOf "is_name" "is_name" (defArgs s_is_name) (defBody s_is_name) (defScope s_is_name) .none kV_is_name dc_is_name pm_is_name an_is_name cd_is_name ct_is_name,
    F_is_name := fun_mk l_is_name c_is_name k_is_name,
    g_is_name := PySem.W.mg_of X G a_is_name,
    f_answers_at := f_answers_at,
    d_answers_at := PySem.W.fnOf "answers_at" "answers_at" (defArgs s_answers_at) (defBody s_answers_at) (defScope s_answers_at) .none kV_answers_at dc_answers_at pm_answers_at an_answers_at cd_answers_at ct_answers_at,
    F_answers_at := fun_mk l_answers_at c_answers_at k_answers_at,
    g_answers_at := PySem.W.mg_of X G a_answers_at,
    f_check_answer := f_check_answer,
    d_check_answer := PySem.W.fnOf "check_answer" "check_answer" (defArgs s_check_answer) (defBody s_check_answer) (defScope s_check_answer) .none kV_check_answer dc_check_answer pm_check_answer an_check_answer cd_check_answer ct_check_answer,
    F_check_answer := fun_mk l_check_answer c_check_answer k_check_answer,
    g_check_answer := PySem.W.mg_of X G a_check_answer,
    f_is_keep := f_is_keep,
    d_is_keep := PySem.W.fnOf "is_keep" "is_keep" (defArgs s_is_keep) (defBody s_is_keep) (defScope s_is_keep) .none kV_is_keep dc_is_keep pm_is_keep an_is_keep cd_is_keep ct_is_keep,
    F_is_keep := fun_mk l_is_keep c_is_keep k_is_keep,
    g_is_keep := PySem.W.mg_of X G a_is_keep,
    f_law_cell := f_law_cell,
    d_law_cell := PySem.W.fnOf "_law_cell" "_law_cell" (defArgs s_law_cell) (defBody s_law_cell) (defScope s_law_cell) .none kV_law_cell dc_law_cell pm_law_cell an_law_cell cd_law_cell ct_law_cell,
    F_law_cell := fun_mk l_law_cell c_law_cell k_law_cell,
    g_law_cell := PySem.W.mg_of X G a_law_cell,
    f_law_row := f_law_row,
    d_law_row := PySem.W.fnOf "_law_row" "_law_row" (defArgs s_law_row) (defBody s_law_row) (defScope s_law_row) .none kV_law_row dc_law_row pm_law_row an_law_row cd_law_row ct_law_row,
    F_law_row := fun_mk l_law_row c_law_row k_law_row,
    g_law_row := PySem.W.mg_of X G a_law_row,
    f_law_entries := f_law_entries,
    d_law_entries := PySem.W.fnOf "_law_entries" "_law_entries" (defArgs s_law_entries) (defBody s_law_entries) (defScope s_law_entries) .none kV_law_entries dc_law_entries pm_law_entries an_law_entries cd_law_entries ct_law_entries,
    F_law_entries := fun_mk l_law_entries c_law_entries k_law_entries,
    g_law_entries := PySem.W.mg_of X G a_law_entries,
    f_law_choices := f_law_choices,
    d_law_choices := PySem.W.fnOf "_law_choices" "_law_choices" (defArgs s_law_choices) (defBody s_law_choices) (defScope s_law_choices) .none kV_law_choices dc_law_choices pm_law_choices an_law_choices cd_law_choices ct_law_choices,
    F_law_choices := fun_mk l_law_choices c_law_choices k_law_choices,
    g_law_choices := PySem.W.mg_of X G a_law_choices,
    f_law_table := f_law_table,
    d_law_table := PySem.W.fnOf "_law_table" "_law_table" (defArgs s_law_table) (defBody s_law_table) (defScope s_law_table) .none kV_law_table dc_law_table pm_law_table an_law_table cd_law_table ct_law_table,
    F_law_table := fun_mk l_law_table c_law_table k_law_table,
    g_law_table := PySem.W.mg_of X G a_law_table,
    f_law_fits := f_law_fits,
    d_law_fits := PySem.W.fnOf "_law_fits" "_law_fits" (defArgs s_law_fits) (defBody s_law_fits) (defScope s_law_fits) .none kV_law_fits dc_law_fits pm_law_fits an_law_fits cd_law_fits ct_law_fits,
    F_law_fits := fun_mk l_law_fits c_law_fits k_law_fits,
    g_law_fits := PySem.W.mg_of X G a_law_fits,
    f_law_sound := f_law_sound,
    d_law_sound := PySem.W.fnOf "_law_sound" "_law_sound" (defArgs s_law_sound) (defBody s_law_sound) (defScope s_law_sound) .none kV_law_sound dc_law_sound pm_law_sound an_law_sound cd_law_sound ct_law_sound,
    F_law_sound := fun_mk l_law_sound c_law_sound k_law_sound,
    g_law_sound := PySem.W.mg_of X G a_law_sound,
    f_law_terms := f_law_terms,
    d_law_terms := PySem.W.fnOf "_law_terms" "_law_terms" (defArgs s_law_terms) (defBody s_law_terms) (defScope s_law_terms) .none kV_law_terms dc_law_terms pm_law_terms an_law_terms cd_law_terms ct_law_terms,
    F_law_terms := fun_mk l_law_terms c_law_terms k_law_terms,
    g_law_terms := PySem.W.mg_of X G a_law_terms,
    f_law_marks := f_law_marks,
    d_law_marks := PySem.W.fnOf "_law_marks" "_law_marks" (defArgs s_law_marks) (defBody s_law_marks) (defScope s_law_marks) .none kV_law_marks dc_law_marks pm_law_marks an_law_marks cd_law_marks ct_law_marks,
    F_law_marks := fun_mk l_law_marks c_law_marks k_law_marks,
    g_law_marks := PySem.W.mg_of X G a_law_marks,
    f_law_names := f_law_names,
    d_law_names := PySem.W.fnOf "_law_names" "_law_names" (defArgs s_law_names) (defBody s_law_names) (defScope s_law_names) .none kV_law_names dc_law_names pm_law_names an_law_names cd_law_names ct_law_names,
    F_law_names := fun_mk l_law_names c_law_names k_law_names,
    g_law_names := PySem.W.mg_of X G a_law_names,
    f_law_steps := f_law_steps,
    d_law_steps := PySem.W.fnOf "_law_steps" "_law_steps" (defArgs s_law_steps) (defBody s_law_steps) (defScope s_law_steps) .none kV_law_steps dc_law_steps pm_law_steps an_law_steps cd_law_steps ct_law_steps,
    F_law_steps := fun_mk l_law_steps c_law_steps k_law_steps,
    g_law_steps := PySem.W.mg_of X G a_law_steps,
    f_law_one := f_law_one,
    d_law_one := PySem.W.fnOf "_law_one" "_law_one" (defArgs s_law_one) (defBody s_law_one) (defScope s_law_one) .none kV_law_one dc_law_one pm_law_one an_law_one cd_law_one ct_law_one,
    F_law_one := fun_mk l_law_one c_law_one k_law_one,
    g_law_one := PySem.W.mg_of X G a_law_one,
    f_law_run := f_law_run,
    d_law_run := PySem.W.fnOf "_law_run" "_law_run" (defArgs s_law_run) (defBody s_law_run) (defScope s_law_run) .none kV_law_run dc_law_run pm_law_run an_law_run cd_law_run ct_law_run,
    F_law_run := fun_mk l_law_run c_law_run k_law_run,
    g_law_run := PySem.W.mg_of X G a_law_run,
    f_law_ints := f_law_ints,
    d_law_ints := PySem.W.fnOf "_law_ints" "_law_ints" (defArgs s_law_ints) (defBody s_law_ints) (defScope s_law_ints) .none kV_law_ints dc_law_ints pm_law_ints an_law_ints cd_law_ints ct_law_ints,
    F_law_ints := fun_mk l_law_ints c_law_ints k_law_ints,
    g_law_ints := PySem.W.mg_of X G a_law_ints,
    f_law_asked := f_law_asked,
    d_law_asked := PySem.W.fnOf "_law_asked" "_law_asked" (defArgs s_law_asked) (defBody s_law_asked) (defScope s_law_asked) .none kV_law_asked dc_law_asked pm_law_asked an_law_asked cd_law_asked ct_law_asked,
    F_law_asked := fun_mk l_law_asked c_law_asked k_law_asked,
    g_law_asked := PySem.W.mg_of X G a_law_asked,
    f_law_agrees := f_law_agrees,
    d_law_agrees := PySem.W.fnOf "_law_agrees" "_law_agrees" (defArgs s_law_agrees) (defBody s_law_agrees) (defScope s_law_agrees) .none kV_law_agrees dc_law_agrees pm_law_agrees an_law_agrees cd_law_agrees ct_law_agrees,
    F_law_agrees := fun_mk l_law_agrees c_law_agrees k_law_agrees,
    g_law_agrees := PySem.W.mg_of X G a_law_agrees,
    f_law := f_law,
    d_law := PySem.W.fnOf "law" "law" (defArgs s_law) (defBody s_law) (defScope s_law) .none kV_law dc_law pm_law an_law cd_law ct_law,
    F_law := fun_mk l_law c_law k_law,
    g_law := PySem.W.mg_of X G a_law,
    g_GREATEST := ⟨_, PySem.W.mg_of X G gv_GREATEST⟩,
    g_SIGNS := ⟨_, PySem.W.mg_of X G gv_SIGNS⟩,
    g_LONGEST_NAME := ⟨_, PySem.W.mg_of X G gv_LONGEST_NAME⟩,
    o_ENTRIES := o_ENTRIES,
    g_ENTRIES := PySem.W.mg_of X G gv_ENTRIES,
    q_ENTRIES := fun _ => .inr ⟨_, _, _, tl_ENTRIES, rfl, rfl, (show (14 : Nat) ≤ sizeLine by decide), (.cons ⟨_, rfl⟩ (.cons ⟨_, rfl⟩ (.cons ⟨_, rfl⟩ (.cons ⟨_, rfl⟩ (.cons ⟨_, rfl⟩ (.cons ⟨_, rfl⟩ (.cons ⟨_, rfl⟩ (.cons ⟨_, rfl⟩ (.cons ⟨_, rfl⟩ (.cons ⟨_, rfl⟩ (.cons ⟨_, rfl⟩ (.cons ⟨_, rfl⟩ (.cons ⟨_, rfl⟩ (.cons ⟨_, rfl⟩ .nil))))))))))))))⟩,
    o_ANSWERS := o_ANSWERS,
    g_ANSWERS := PySem.W.mg_of X G gv_ANSWERS,
    o0_ANSWERS := o0_ANSWERS,
    q0_ANSWERS := fun _ => .inr ⟨_, _, _, tl_0_ANSWERS, rfl, rfl, (show (3 : Nat) ≤ sizeLine by decide), (.cons ⟨_, rfl⟩ (.cons ⟨_, rfl⟩ (.cons ⟨_, rfl⟩ .nil)))⟩,
    o1_ANSWERS := o1_ANSWERS,
    q1_ANSWERS := fun _ => .inr ⟨_, _, _, tl_1_ANSWERS, rfl, rfl, (show (5 : Nat) ≤ sizeLine by decide), (.cons ⟨_, rfl⟩ (.cons ⟨_, rfl⟩ (.cons ⟨_, rfl⟩ (.cons ⟨_, rfl⟩ (.cons ⟨_, rfl⟩ .nil)))))⟩,
    o2_ANSWERS := o2_ANSWERS,
    q2_ANSWERS := fun _ => .inr ⟨_, _, _, tl_2_ANSWERS, rfl, rfl, (show (4 : Nat) ≤ sizeLine by decide), (.cons ⟨_, rfl⟩ (.cons ⟨_, rfl⟩ (.cons ⟨_, rfl⟩ (.cons ⟨_, rfl⟩ .nil))))⟩,
    o3_ANSWERS := o3_ANSWERS,
    q3_ANSWERS := fun _ => .inr ⟨_, _, _, tl_3_ANSWERS, rfl, rfl, (show (4 : Nat) ≤ sizeLine by decide), (.cons ⟨_, rfl⟩ (.cons ⟨_, rfl⟩ (.cons ⟨_, rfl⟩ (.cons ⟨_, rfl⟩ .nil))))⟩,
    o4_ANSWERS := o4_ANSWERS,
    q4_ANSWERS := fun _ => .inr ⟨_, _, _, tl_4_ANSWERS, rfl, rfl, (show (2 : Nat) ≤ sizeLine by decide), (.cons ⟨_, rfl⟩ (.cons ⟨_, rfl⟩ .nil))⟩,
    o5_ANSWERS := o5_ANSWERS,
    q5_ANSWERS := fun _ => .inr ⟨_, _, _, tl_5_ANSWERS, rfl, rfl, (show (4 : Nat) ≤ sizeLine by decide), (.cons ⟨_, rfl⟩ (.cons ⟨_, rfl⟩ (.cons ⟨_, rfl⟩ (.cons ⟨_, rfl⟩ .nil))))⟩,
    o6_ANSWERS := o6_ANSWERS,
    q6_ANSWERS := fun _ => .inr ⟨_, _, _, tl_6_ANSWERS, rfl, rfl, (show (4 : Nat) ≤ sizeLine by decide), (.cons ⟨_, rfl⟩ (.cons ⟨_, rfl⟩ (.cons ⟨_, rfl⟩ (.cons ⟨_, rfl⟩ .nil))))⟩,
    o7_ANSWERS := o7_ANSWERS,
    q7_ANSWERS := fun _ => .inr ⟨_, _, _, tl_7_ANSWERS, rfl, rfl, (show (4 : Nat) ≤ sizeLine by decide), (.cons ⟨_, rfl⟩ (.cons ⟨_, rfl⟩ (.cons ⟨_, rfl⟩ (.cons ⟨_, rfl⟩ .nil))))⟩,
    o8_ANSWERS := o8_ANSWERS,
    q8_ANSWERS := fun _ => .inr ⟨_, _, _, tl_8_ANSWERS, rfl, rfl, (show (2 : Nat) ≤ sizeLine by decide), (.cons ⟨_, rfl⟩ (.cons ⟨_, rfl⟩ .nil))⟩,
    o9_ANSWERS := o9_ANSWERS,
    q9_ANSWERS := fun _ => .inr ⟨_, _, _, tl_9_ANSWERS, rfl, rfl, (show (2 : Nat) ≤ sizeLine by decide), (.cons ⟨_, rfl⟩ (.cons ⟨_, rfl⟩ .nil))⟩,
    o10_ANSWERS := o10_ANSWERS,
    q10_ANSWERS := fun _ => .inr ⟨_, _, _, tl_10_ANSWERS, rfl, rfl, (show (2 : Nat) ≤ sizeLine by decide), (.cons ⟨_, rfl⟩ (.cons ⟨_, rfl⟩ .nil))⟩,
    o11_ANSWERS := o11_ANSWERS,
    q11_ANSWERS := fun _ => .inr ⟨_, _, _, tl_11_ANSWERS, rfl, rfl, (show (4 : Nat) ≤ sizeLine by decide), (.cons ⟨_, rfl⟩ (.cons ⟨_, rfl⟩ (.cons ⟨_, rfl⟩ (.cons ⟨_, rfl⟩ .nil))))⟩,
    o12_ANSWERS := o12_ANSWERS,
    q12_ANSWERS := fun _ => .inr ⟨_, _, _, tl_12_ANSWERS, rfl, rfl, (show (4 : Nat) ≤ sizeLine by decide), (.cons ⟨_, rfl⟩ (.cons ⟨_, rfl⟩ (.cons ⟨_, rfl⟩ (.cons ⟨_, rfl⟩ .nil))))⟩,
    o13_ANSWERS := o13_ANSWERS,
    q13_ANSWERS := fun _ => .inr ⟨_, _, _, tl_13_ANSWERS, rfl, rfl, (show (4 : Nat) ≤ sizeLine by decide), (.cons ⟨_, rfl⟩ (.cons ⟨_, rfl⟩ (.cons ⟨_, rfl⟩ (.cons ⟨_, rfl⟩ .nil))))⟩,
    es_ANSWERS := #[⟨h0_ANSWERS, .str "read late" tk0_ANSWERS, .ref o0_ANSWERS⟩, ⟨h1_ANSWERS, .str "read under" tk1_ANSWERS, .ref o1_ANSWERS⟩, ⟨h2_ANSWERS, .str "read below" tk2_ANSWERS, .ref o2_ANSWERS⟩, ⟨h3_ANSWERS, .str "read above" tk3_ANSWERS, .ref o3_ANSWERS⟩, ⟨h4_ANSWERS, .str "write late" tk4_ANSWERS, .ref o4_ANSWERS⟩, ⟨h5_ANSWERS, .str "write under" tk5_ANSWERS, .ref o5_ANSWERS⟩, ⟨h6_ANSWERS, .str "write below" tk6_ANSWERS, .ref o6_ANSWERS⟩, ⟨h7_ANSWERS, .str "write above" tk7_ANSWERS, .ref o7_ANSWERS⟩, ⟨h8_ANSWERS, .str "write free passed" tk8_ANSWERS, .ref o8_ANSWERS⟩, ⟨h9_ANSWERS, .str "write own passed" tk9_ANSWERS, .ref o9_ANSWERS⟩, ⟨h10_ANSWERS, .str "write late passed" tk10_ANSWERS, .ref o10_ANSWERS⟩, ⟨h11_ANSWERS, .str "write under passed" tk11_ANSWERS, .ref o11_ANSWERS⟩, ⟨h12_ANSWERS, .str "write below passed" tk12_ANSWERS, .ref o12_ANSWERS⟩, ⟨h13_ANSWERS, .str "write above passed" tk13_ANSWERS, .ref o13_ANSWERS⟩],
    ep_ANSWERS := ep_ANSWERS,
    kd_ANSWERS := ⟨dl_ANSWERS, dk_ANSWERS, ds_ANSWERS⟩,
    n0_ANSWERS := dn0_ANSWERS,
    n1_ANSWERS := dn1_ANSWERS,
    n2_ANSWERS := dn2_ANSWERS,
    n3_ANSWERS := dn3_ANSWERS,
    n4_ANSWERS := dn4_ANSWERS,
    n5_ANSWERS := dn5_ANSWERS,
    n6_ANSWERS := dn6_ANSWERS,
    n7_ANSWERS := dn7_ANSWERS,
    n8_ANSWERS := dn8_ANSWERS,
    n9_ANSWERS := dn9_ANSWERS,
    n10_ANSWERS := dn10_ANSWERS,
    n11_ANSWERS := dn11_ANSWERS,
    n12_ANSWERS := dn12_ANSWERS,
    n13_ANSWERS := dn13_ANSWERS,
    g_MOST_KEPT := ⟨_, PySem.W.mg_of X G gv_MOST_KEPT⟩,
    n_NotImplemented := PySem.W.mg_none_of X G n_NotImplemented,
    n_all := PySem.W.mg_none_of X G n_all,
    n_bool := PySem.W.mg_none_of X G n_bool,
    n_dict := PySem.W.mg_none_of X G n_dict,
    n_enumerate := PySem.W.mg_none_of X G n_enumerate,
    n_int := PySem.W.mg_none_of X G n_int,
    n_isinstance := PySem.W.mg_none_of X G n_isinstance,
    n_len := PySem.W.mg_none_of X G n_len,
    n_range := PySem.W.mg_none_of X G n_range,
    n_sorted := PySem.W.mg_none_of X G n_sorted,
    n_str := PySem.W.mg_none_of X G n_str,
    n_super := PySem.W.mg_none_of X G n_super,
    n_tuple := PySem.W.mg_none_of X G n_tuple
  }, ?_⟩
  exact (Value.ref.inj (Option.some.inj (hfa.symm.trans (PySem.W.mg_of X G a_law)))).symm
end K16
namespace K16
open PySem L2
abbrev PP : Program := PySem.Challenge.rw_stamprules_k16_a_desk_follows_the_run.prog
end K16

/-! Rules of our own over the hand layer: a comparison by an own method, isinstance of a caught error that has fields, an instance made within a try. -/
namespace CM
open PySem PySem.Spec PyProof.Rows L2
section
variable {X : Cx} {CX : CXT} {pins : List (Addr × Obj)} {σ : L2.St} {H : Hp} {s : Shared} {a C g : Addr} {n : Nat} {sp : Sp} {E : XK}
/-- x op y, both instances of the class at C, whose own def for op is at g -/
def rOwnI (C : Addr) (sp : Sp) (E : XK) : R2 := fun x y H Q => ∃ a dx fs b dy gs, x = .ref a ∧ y = .ref b ∧ H a = some (.ins C dx fs) ∧ H b = some (.ins C dy gs) ∧ sp [x, y] H Q E
theorem op_ownI {op : CmpOp} (hop : ∀ a b, compareOp op a b = richCompare op a b) (hs : PySem.W.findIn X.K (.ref C) (cmpInfo op).2.1 = some (some (.ref g))) (hf : PySem.W.isFn X.K (.ref g) = true) (F : FnR X.prog X.w X.K X.mg X.base CX n g sp)
    (hr : Room n X.A) (hx : Passes CX X E) : OpR X (compareOp op) (rOwnI C sp E) := by
  intro pins s σ H x y v u Q I rx ry h
  obtain ⟨a, dx, fs, b, dy, gs, rfl, rfl, ha, hb, q⟩ := h
  cases (show v = Value.ref a from rx)
  cases (show u = Value.ref b from ry)
  obtain ⟨mA, O, _⟩ := ins_get I.hok ha
  obtain ⟨od, J, _⟩ := O.look
  obtain ⟨mB, O', _⟩ := ins_get I.hok hb
  obtain ⟨od', J', _⟩ := O'.look
  obtain ⟨m, hF⟩ := I.fr
  rw [hop]
  refine PySem.W.cmp_K (op := op) (tb := .ref C) hr.units0 hF I.ok.mod.kin J J'.type (by simp [PySem.W.notFirst]) hs hf ?_
  refine wpAny_mono (wpAny_call (run_fnR (us := [.ref a, .ref b]) (vs := [.ref a, .ref b]) F hr hx I (.cons rfl (.cons rfl .nil)) q)) (fun w s' z => ?_) fun _ _ x => x
  obtain ⟨z', H', I', rz, qz⟩ := z
  exact SlX.cmpback rz ⟨z', H', I', rz, qz⟩
end
/-- isinstance(e, c), e the exception that the suite holds (its class cls, its dict d), with fields of its own -/
def rIsD (K : PySem.W.Frag) (D a : Addr) (cls : Value) (d : Option Addr) : List V → Hp → VK → Prop := fun xs H Q => ∃ (c : V) (cv : Value) (b : Bool) (dd : Addr) (fs : List (Str × V)), xs = [.ref a, c] ∧ cls = .ref D ∧ d = some dd ∧ ClsV c cv ∧ PySem.W.kitOne K (.ref D) cv = some b ∧ H dd = some (.xd fs) ∧ Q (.bl b) H
theorem call_isD {X : Cx} {a D : Addr} {cls : Value} {d : Option Addr} {oe : Obj} {pn : List (Addr × Obj)} (C : ExcC X.K D) (hz : Zc cls d oe) (hf : ∃ vs, oe.data = .fields vs) : CallR (X.suite a ((a, oe) :: pn)) (.builtin "isinstance") (rIsD X.K D a cls d) := by
  intro pins s σ H xs us Q I r h
  obtain ⟨c, cv, b, dd, fs, rfl, rfl, rfl, hcv, e, ea, q⟩ := h
  cases r with
  | cons rx rr =>
    cases rr with
    | cons rt rr =>
      cases rr
      cases rx
      have ec := hcv.eq rt
      subst ec
      obtain ⟨hget, _⟩ := I.pin (a, oe) (List.mem_append.mpr (.inl List.mem_cons_self))
      obtain ⟨vs, hv⟩ := hf
      have hx : ObjOk X.prog X.w H s.heap dd (.xd fs) := I.hok dd _ ea
      obtain ⟨mA, hns, hr⟩ := hx
      obtain ⟨od, ho, hl⟩ := lookIn_ns hns
      have J : PySem.W.InstAt s.heap a oe D (some od) := ⟨hget, hz.1, by unfold PySem.W.notCls; rw [hv] <;> rfl, by rw [hz.2]; exact ho⟩
      have hcl : (PySem.W.clsIn X.K D).isSome = true := by
        obtain ⟨cd, hc, _⟩ := PySem.W.any_some C.hd
        rw [hc]
        rfl
      exact PySem.W.kia_one (PySem.W.kitx_exc hcl C.hg C.hk C.hs C.ha C.hn C.ht C.hm) I.kIn J e (fun z => by cases hcv <;> cases z) fun tk => ⟨.bl b, H, I.kept (t' := tk) fun _ _ z => z, rfl, q⟩
/-- an object that stands, behind a new one -/
theorem kp {H : Hp} {p q : Addr} {o o' : HO} (n : H p = none) (h : H q = some o) : upd H p o' q = some o := by
  rw [upd_ne (ne_of_none h n)]
  exact h
theorem same_new {H H' : Hp} {p : Addr} {o : HO} (s : Same H H') (n : H' p = none) : Same H (upd H' p o) := fun b o' h => kp n (s b o' h)
section
variable {X : Cx} {CX : CXT} {k : Nat} {f C : Addr} {fd : FuncData} {ps : List Str} {sp : Sp} {E : L2.St → XK} {x : Str} {p pos : Pos} {e : Expr} {es : List Expr} {t : TA} {ds : List Value} {dvs : List V}
/-- C(e, ..) whose __init__ may raise, within a try -/
def tMakeS (C : Addr) (sp : Sp) (dvs : List V) (E : L2.St → XK) (t : TA) : TE := fun σ H Q => t σ H fun vs H1 => ∀ x dx, H1 x = none → H1 dx = none → dx ≠ x →
  sp (.ref x :: (vs ++ dvs)) (upd (upd H1 dx (.own x)) x (.ins C dx [])) (fun v H2 => v = .non ∧ Q (.ref x) H2) (E σ)
theorem pe_makeS (M : Mk X.K C f) (F : FnOk X.prog X.w X.K X.mg X.base CX k f fd ps sp) (hr : Room (k + 1) X.A) (hg : Gl X x) (hm : X.mg x = some (.ref C)) (hb : Binds X.K fd ps ds) (hd : Vals dvs ds) (hx : ∀ σ, PassesAt CX X σ (E σ))
    (ha : PA X (e :: es) t) (hdb : (x == ("__debug__" : Str)) = false := by decide) (he : starEach (e :: es) X.env = (false, eval e X.env) :: starEach es X.env := by rfl) (hpl : (backTo pos (starEach es X.env)).any (·.1) = false := by rfl) :
    PE X (.Call (.Name x p) (e :: es) [] pos) (tMakeS C sp dvs E t) := by
  refine ⟨fun pins s σ H Q I h => ?_⟩
  refine wpAny_Call_Name_kw (ld_glob I hg hm ?_ hdb)
  refine PySem.W.callWith_K (h₀ := X.base) I.ok.mod.kin M.kp (thn (ha.run pos pins s σ H _ I h) fun us s1 ⟨vs, H1, I1, r, q⟩ => ⟨I1.kIn, ?_⟩) he hpl
  have hq := q (s1.heap.objs.size + 1) s1.heap.objs.size (I1.hok.fresh (Nat.le_succ _)) (I1.hok.fresh (Nat.le_refl _)) (Nat.ne_of_lt (Nat.lt_succ_self _))
  have I2 := Inv.made (C := C) I1
  have r2 : Vals (V.ref (s1.heap.objs.size + 1) :: (vs ++ dvs)) (Value.ref (s1.heap.objs.size + 1) :: (us ++ ds)) := .cons rfl (r.append hd)
  have hl : (Value.ref (s1.heap.objs.size + 1) :: us ++ ds).length = ps.length := by
    have e := r2.length
    rw [F.len _ _ _ _ hq] at e
    exact e.symm
  refine wpAny_call (make_map (f := f) I1.kIn M.makes M.init (beq_iff_eq.mp M.fn) (codeAny_mono (F.run _ X.stack _ _ ⟨Value.ref (s1.heap.objs.size + 1) :: us, []⟩ (Value.ref (s1.heap.objs.size + 1) :: (us ++ ds)) _ _ (E σ) (hr.make C us [])
    (I2.env0.make C us []) (hb _ (Value.ref (s1.heap.objs.size + 1) :: us) I2.kIn hl) r2 hq) fun r s' hq' => ?_))
  cases r with
  | error e => exact hx σ pins _ _ e s' I2 hq'
  | ok fl =>
    cases fl with
    | ret u =>
      obtain ⟨v, H', I3, rv, ev, q3⟩ := I2.after hq'
      subst ev
      exact ⟨rv, ⟨V.ref (s1.heap.objs.size + 1), H', I3, rfl, q3⟩⟩
    | next => exact False.elim hq'
    | brk => exact False.elim hq'
    | cont => exact False.elim hq'
end
end CM

/-! A written dict from texts to texts: d[k], k not in d. -/
namespace CM
open PySem PySem.Spec PyProof.Rows L2
/-- the heap behind an error that was made with one field -/
theorem raise_heap {H : Hp} {a d : Addr} {o1 x o2 y : HO} (ha : H a = none) : upd (del (upd (upd (upd H a o1) d x) a o2) a) d y = upd H d y := by
  funext b
  by_cases hbd : b = d
  · rw [hbd, upd_same, upd_same]
  · rw [upd_ne hbd, upd_ne hbd]
    by_cases hba : b = a
    · rw [hba, del_same, ha]
    · rw [del_ne hba, upd_ne hba, upd_ne hbd, upd_ne hba]
theorem cut_head {z : Str} : TL.tl (cutS z none (some 1)) = (TL.tl z).take 1 := by
  show (z.cps.toList.drop (HT.sIx z.length 0 none)).take (HT.sIx z.length z.length (some ((1 : Nat) : Int)) - HT.sIx z.length 0 none) = _
  rw [HT.sIx_none, HT.sIx_nat, List.drop_zero, Nat.sub_zero]
  have e : z.length = z.cps.toList.length := TL.len_tl z
  rw [e]
  show _ = z.cps.toList.take 1
  generalize z.cps.toList = l
  cases l with
  | nil => rfl
  | cons c d =>
    have : min 1 (c :: d).length = 1 := by simp
    rw [this]
theorem cut_tail {z : Str} : TL.tl (cutS z (some 1) none) = (TL.tl z).drop 1 := by
  show (z.cps.toList.drop (HT.sIx z.length 0 (some ((1 : Nat) : Int)))).take (HT.sIx z.length z.length none - HT.sIx z.length 0 (some ((1 : Nat) : Int))) = _
  rw [HT.sIx_none, HT.sIx_nat]
  have e : z.length = z.cps.toList.length := TL.len_tl z
  rw [e]
  show _ = z.cps.toList.drop 1
  generalize z.cps.toList = l
  cases l with
  | nil => rfl
  | cons c d =>
    have : min 1 (c :: d).length = 1 := by simp
    rw [this]
    have l : ((c :: d).drop 1).length = (c :: d).length - 1 := List.length_drop
    rw [List.take_of_length_le (by omega)]
/-- at p the written dict of the pairs kvs -/
def WDct (K : PySem.W.Frag) (w : World) (p : Addr) (kvs : List (Str × Str)) : Prop :=
  ∃ es n, K.lookup p = some ⟨.type "dict", none, .dict es n, #[]⟩ ∧ PySem.W.KeysLit w.params es.toList ∧ (p == sysModules) = false ∧ Paired (fun (e : DictEntry) (q : Str × Str) => (∃ t, e.key = .str q.1 t) ∧ ∃ t, e.val = .str q.2 t) es.toList kvs
theorem wd_find : ∀ {es : List DictEntry} {kvs : List (Str × Str)}, Paired (fun (e : DictEntry) (q : Str × Str) => (∃ t, e.key = .str q.1 t) ∧ ∃ t, e.val = .str q.2 t) es kvs → ∀ z : Str,
    match kvs.lookup z with
    | some y => ∃ t, (es.find? fun e => PySem.Value.isStrOf z e.key).map (·.val) = some (.str y t)
    | none => (es.find? fun e => PySem.Value.isStrOf z e.key).map (·.val) = none
  | _, _, .nil, _ => rfl
  | e :: es, (a, b) :: kvs, .cons ⟨⟨t, hk⟩, u, hv⟩ r, z => by
    have ih := wd_find r z
    have ek : PySem.Value.isStrOf z e.key = (a == z) := by rw [hk] <;> rfl
    by_cases h : z = a
    · subst h
      have l : ((z, b) :: kvs).lookup z = some b := by simp [List.lookup]
      rw [l]
      refine ⟨u, ?_⟩
      rw [List.find?_cons, ek]
      simp [hv]
    · have l : ((a, b) :: kvs).lookup z = kvs.lookup z := by
        have : (z == a) = false := by simpa using h
        simp [List.lookup, this]
      have n : (a == z) = false := by
        have : ¬ a = z := fun q => h q.symm
        simpa using this
      rw [l, List.find?_cons, ek, n]
      exact ih
theorem wd_findBy {es : Array DictEntry} {kvs : List (Str × Str)} (r : Paired (fun (e : DictEntry) (q : Str × Str) => (∃ t, e.key = .str q.1 t) ∧ ∃ t, e.val = .str q.2 t) es.toList kvs) (z : Str) :
    findBy PySem.Value.isStrOf es z = (es.toList.find? fun e => PySem.Value.isStrOf z e.key).map (·.val) := by
  obtain ⟨l⟩ := es
  simp [findBy]
def rNotInW (K : PySem.W.Frag) (w : World) : R2 := fun x y H Q => ∃ z p kvs, x = .str z ∧ y = .ref p ∧ WDct K w p kvs ∧ Q (.bl (!(kvs.lookup z).isSome)) H
def rIxW (K : PySem.W.Frag) (w : World) : R2 := fun x y H Q => ∃ z p kvs v, x = .ref p ∧ y = .str z ∧ WDct K w p kvs ∧ kvs.lookup z = some v ∧ Q (.str v) H
section
variable {X : Cx}
theorem op_notinW : OpR X (compareOp .NotIn) (rNotInW X.K X.w) := by
  intro pins s σ H x y v u Q I rx ry h
  obtain ⟨z, p, kvs, rfl, rfl, ⟨es, n, hl, hk, low, pr⟩, q⟩ := h
  obtain ⟨t, rfl⟩ := (show ∃ t, v = Value.str z t from rx)
  obtain rfl : u = Value.ref p := ry
  have hm := PySem.W.mapOf_K (prog := X.prog) (w := X.w) I.kIn hl hk
  refine wpAny_notIn_of (strKind_is X.prog X.w z t) low hm ?_
  have e : (findBy PySem.Value.isStrOf es z).isSome = (kvs.lookup z).isSome := by
    have f := wd_find pr z
    rw [wd_findBy pr z]
    cases hq : kvs.lookup z with
    | none =>
      rw [hq] at f
      rw [f] <;> rfl
    | some y =>
      rw [hq] at f
      obtain ⟨t', f⟩ := f
      rw [f] <;> rfl
  have e' : (findBy Value.isStrOf es z).isSome = (kvs.lookup z).isSome := e
  rw [e']
  exact ⟨.bl (!(kvs.lookup z).isSome), H, I.tok _, rfl, q⟩
theorem ix_W : IxR X (rIxW X.K X.w) := by
  intro value slice pins s σ H x y v u Q I rx ry h hs
  obtain ⟨z, p, kvs, r, rfl, rfl, ⟨es, n, hl, hk, low, pr⟩, lk, q⟩ := h
  obtain rfl : v = Value.ref p := rx
  obtain ⟨t, rfl⟩ := ry
  have hm := PySem.W.mapOf_K (prog := X.prog) (w := X.w) I.kIn hl hk
  have f := wd_find pr z
  rw [lk] at f
  obtain ⟨t', f⟩ := f
  rw [← wd_findBy pr z] at f
  exact tail_any hm.typeIs slot_dict_getitem.lookup (wpAny_getItem_of (strKind_is X.prog X.w z t) hm f ⟨.str r, H, I.tok _, ⟨_, rfl⟩, q⟩) hs
end
end CM

/-! Own operators of a plain class, below the layer: o[i], o[i] = v, x in o, o &= p, iter(o). -/
namespace OWN
open PySem PySem.Spec PyProof.Rows
section
variable {prog : Program} {w : World} {M : Model} {A : Around} {E : Value → Shared → Prop} {s : Shared} {K : PySem.W.Frag} {x C g : Addr} {ox : Obj} {od : Option Obj}
theorem spec {self : Value} {name : PySem.Str} {args : List Value} {Q : Option Value → Shared → Prop} (sp : PySem.W.Looks M s.heap (specialOf self name) (some (.ref g))) (hb : PySem.W.Looks M s.heap (bindSpecial (.ref g) self) (.ref g, [self]))
    (hc : wpAny M A (call (.ref g) (self :: args)) (fun v => Q (some v)) E s) : wpAny M A (callSpecial? self name args) Q E s := by
  simp only [callSpecial?]
  refine wpAny_bind (sp.here ?_)
  refine wpAny_holding (wpAny_bind (hb.here ?_))
  exact wpAny_bind (wpAny_mono hc (fun v s' h' => wpAny_pure h') fun _ _ h' => h')
theorem special {name : PySem.Str} {h : Heap} (X : K.In h) (J : PySem.W.InstAt h x ox C od) (hs : PySem.W.findIn K (.ref C) name = some (some (.ref g))) : PySem.W.Looks M h (specialOf (.ref x) name) (some (.ref g)) :=
  J.type.andThen (PySem.W.looks_findIn X hs)
theorem seqkey {h : Heap} {k : Value} {nm : PySem.Str} (X : K.In h) (J : PySem.W.InstAt h x ox C od) (nd : PySem.W.mroIn K C (.type "collections.deque") = some false) : PySem.W.Looks M h (sequenceKey (.ref x) k nm) k := by
  have dq : PySem.W.Looks M h (seqItemTypes.anyM fun n => isSubtype (.ref C) (.type n)) false := by
    show PySem.W.Looks M h (isSubtype (.ref C) (.type "collections.deque") >>= fun b => _) false
    exact (PySem.W.looks_mroIn X nd).andThen .now
  intro A Q E s kp q
  unfold sequenceKey
  refine wpAny_bind (J.type A _ E s kp ?_)
  dsimp only
  refine wpAny_bind (dq A _ E s kp ?_)
  exact wpAny_pure q
theorem getItem_own {i : Value} {Q : Value → Shared → Prop} (X : K.In s.heap) (J : PySem.W.InstAt s.heap x ox C od) (hs : PySem.W.findIn K (.ref C) "__getitem__" = some (some (.ref g))) (hf : PySem.W.isFn K (.ref g) = true)
    (nd : PySem.W.mroIn K C (.type "collections.deque") = some false) (h : wpAny (model prog w) A (call (.ref g) [.ref x, i]) Q E s) : wpAny (model prog w) A (getItem (.ref x) i) Q E s := by
  unfold getItem
  refine wpAny_holding ?_
  refine wpAny_bind ((seqkey (M := model prog w) (k := i) X J nd).here ?_)
  refine wpAny_bind (spec (special X J hs) (PySem.W.bind_fn X _ (beq_iff_eq.mp hf)) (wpAny_mono h (fun v s' z => wpAny_pure z) fun _ _ z => z))
theorem setItem_own {i v : Value} {Q : Unit → Shared → Prop} (X : K.In s.heap) (J : PySem.W.InstAt s.heap x ox C od) (hs : PySem.W.findIn K (.ref C) "__setitem__" = some (some (.ref g))) (hf : PySem.W.isFn K (.ref g) = true)
    (nd : PySem.W.mroIn K C (.type "collections.deque") = some false) (h : wpAny (model prog w) A (call (.ref g) [.ref x, i, v]) (fun _ s' => Q () s') E s) : wpAny (model prog w) A (setItem (.ref x) i v) Q E s := by
  unfold setItem
  refine wpAny_holding ?_
  refine wpAny_bind ((seqkey (M := model prog w) (k := i) X J nd).here ?_)
  refine wpAny_bind (spec (special X J hs) (PySem.W.bind_fn X _ (beq_iff_eq.mp hf)) (wpAny_mono h (fun v s' z => wpAny_pure z) fun _ _ z => z))
theorem contains_own {i : Value} {Q : Bool → Shared → Prop} (X : K.In s.heap) (J : PySem.W.InstAt s.heap x ox C od) (hs : PySem.W.findIn K (.ref C) "__contains__" = some (some (.ref g))) (hf : PySem.W.isFn K (.ref g) = true)
    (h : wpAny (model prog w) A (call (.ref g) [.ref x, i]) (fun v s' => ∃ b, v = .bool b ∧ Q b s') E s) : wpAny (model prog w) A (contains (.ref x) i) Q E s := by
  unfold contains
  refine wpAny_holding ?_
  simp only [stdlibNamesSay?]
  refine wpAny_bind ((special X J hs).here ?_)
  have ne : ((some (Value.ref g)) == some Value.none) = false := rfl
  rw [ne]
  simp only [Bool.false_eq_true, if_false]
  have main : ∀ t : Sem Value, wpAny (model prog w) A (callSpecialUnlessNone? (.ref x) (Str.ofString "__contains__") [i] t) (fun r s' => ∃ b, r = some (.bool b) ∧ Q b s') E s := fun t => by
    simp only [callSpecialUnlessNone?]
    refine wpAny_bind ((special X J hs).here ?_)
    refine wpAny_holding (wpAny_bind ((PySem.W.bind_fn X _ (beq_iff_eq.mp hf)).here ?_))
    have ng : ((Value.ref g) == Value.none) = false := rfl
    simp only [ng, Bool.false_eq_true, if_false]
    refine wpAny_bind (wpAny_mono h (fun v s' z => ?_) fun _ _ z => z)
    obtain ⟨b, rfl, q⟩ := z
    exact wpAny_pure ⟨b, rfl, q⟩
  refine wpAny_bind (wpAny_mono (main _) (fun r s' z => ?_) fun _ _ z => z)
  obtain ⟨b, rfl, q⟩ := z
  exact wpAny_truthy_bool q
theorem fills_own {h : Heap} {nm : String} {cd : ClassData} {rest : List Value} {b : Bool} (X : K.In h) (hc : PySem.W.clsIn K C = some cd) (hm : cd.mro = .ref C :: rest) (hs : PySem.W.findIn K (.ref C) (dunderI nm) = some (some (.ref g))) :
    PySem.W.Looks M h (fillsInplaceSlot (.ref C) nm b) true := by
  intro A Q E s kp q
  unfold fillsInplaceSlot
  dsimp only
  have lm : PySem.W.Looks M h (mroOf (.ref C)) cd.mro := (PySem.W.looks_clsIn X hc).andThen (f := fun cd => pure cd.mro) .now
  refine wpAny_bind (lm A _ E s kp ?_)
  rw [hm]
  simp only [List.anyM]
  refine wpAny_bind (wpAny_bind ((PySem.W.looks_findIn X hs) A _ E s kp ?_))
  have hw : ownNameWrapper (.ref g) (dunderI nm) = false := rfl
  simp only [hw, Bool.not_false, if_true]
  exact wpAny_pure (wpAny_pure q)
theorem iand_own {y : Value} {op : Operator} {cd : ClassData} {rest : List Value} {Q : Value → Shared → Prop} (X : K.In s.heap) (J : PySem.W.InstAt s.heap x ox C od) (hc : PySem.W.clsIn K C = some cd) (hm : cd.mro = .ref C :: rest)
    (hs : PySem.W.findIn K (.ref C) (dunderI op.info.2) = some (some (.ref g))) (hf : PySem.W.isFn K (.ref g) = true)
    (h : wpAny (model prog w) A (call (.ref g) [.ref x, y]) (fun v s' => v ≠ .notImplemented ∧ Q v s') E s) : wpAny (model prog w) A (inplaceOp op (.ref x) y) Q E s := by
  unfold inplaceOp
  refine wpAny_holding ?_
  dsimp only
  refine wpAny_bind (J.type.here ?_)
  refine wpAny_bind ((fills_own (M := model prog w) (nm := op.info.2) X hc hm hs).here ?_)
  simp only [if_true]
  have main : wpAny (model prog w) A (tryMethod (.ref x) (dunderI op.info.2) y) (fun r s' => ∃ v, r = some v ∧ Q v s') E s := by
    unfold tryMethod
    refine wpAny_bind (spec (special X J hs) (PySem.W.bind_fn X _ (beq_iff_eq.mp hf)) (wpAny_mono h (fun v s' z => ?_) fun _ _ z => z))
    obtain ⟨n, q⟩ := z
    cases v <;> first | exact (n rfl).elim | exact wpAny_pure ⟨_, rfl, q⟩
  refine wpAny_bind (wpAny_mono main (fun r s' z => ?_) fun _ _ z => z)
  obtain ⟨v, rfl, q⟩ := z
  exact wpAny_bind (wpAny_rule (wpAny_pure q))
end
end OWN

/-! Own operators of a plain class as rules: o[i], o[i] = v, x in o, o &= p; list(o) and for x in o where __iter__ says iter of a dict. -/
namespace OWN
open PySem PySem.Spec PyProof.Rows L2
section
variable {X : Cx} {CX : CXT} {C g : Addr} {n : Nat} {sp : Sp} {E : XK} {ES : L2.St → XK}
abbrev ownF {P : Program} {w : World} {K : PySem.W.Frag} {mg : Str → Option Value} {base : Heap} {CX : CXT} {k : Nat} {f : Addr} {fd : FuncData} {ps : List Str} {sp : Sp} (F : FnOk P w K mg base CX k f fd ps sp) (b : Binds K fd ps []) : FnR P w K mg base CX k f (fun vs H Q E => sp (vs ++ []) H Q E) := F.raw b .nil
/-- the callee runs, what is raised wished for at the slots -/
theorem run_fnRS {pins : List (Addr × Obj)} {σ : L2.St} {H : Hp} {s : Shared} {Q : VK} {us : List Value} {vs : List V} (F : FnR X.prog X.w X.K X.mg X.base CX n g sp) (hr : Room n X.A) (hx : PassesAt CX X σ (ES σ)) (I : Inv X pins σ H s) (r : Vals vs us) (h : sp vs H Q (ES σ)) :
    wpAny (model X.prog X.w) X.A (call (.ref g) us) (EP X pins σ Q) X.xe s := by
  refine wpAny_call (codeAny_mono (F X.A X.stack s H us vs Q (ES σ) hr I.env0 r h) fun r s' hq => ?_)
  cases r with
  | error e => exact hx pins H s e s' I hq
  | ok fl =>
    cases fl with
    | ret u => exact I.after hq
    | next => exact False.elim hq
    | brk => exact False.elim hq
    | cont => exact False.elim hq
theorem passAll (hx : Passes CX X E) (σ : L2.St) : PassesAt CX X σ E := fun pins H s e s' I c => hx pins σ H s e s' I c
def rOwn2 (C : Addr) (sp : Sp) (E : XK) : R2 := fun x y H Q => ∃ a dx fs, x = .ref a ∧ H a = some (.ins C dx fs) ∧ sp [x, y] H Q E
/-- the callee runs within a built-in -/
theorem run_in1 {pins : List (Addr × Obj)} {σ : L2.St} {H : Hp} {s : Shared} {Q : VK} {us : List Value} {vs : List V} (F : FnR X.prog X.w X.K X.mg X.base CX n g sp) (hr : Room (n + 1) X.A) (hx : PassesAt CX X σ (ES σ)) (I : Inv X pins σ H s) (r : Vals vs us) (h : sp vs H Q (ES σ)) :
    wpAny (model X.prog X.w) X.A.in1 (call (.ref g) us) (EP X pins σ Q) X.xe s := by
  refine wpAny_call (codeAny_mono (F X.A.in1 X.stack s H us vs Q (ES σ) hr.in1 I.env0.in1 r h) fun r s' hq => ?_)
  cases r with
  | error e => exact hx pins H s e s' I hq
  | ok fl =>
    cases fl with
    | ret u => exact I.after hq
    | next => exact False.elim hq
    | brk => exact False.elim hq
    | cont => exact False.elim hq
/-- what stands as an index where the object's own def is asked -/
def OwnIx (b : Expr) : Prop := ∀ o i, subscripted b true o i = runValue (.builtin "lifetime.subscript" ⟨[o, i], []⟩)
/-- o[i], o an instance of an own class with __getitem__ -/
def tIxO (C : Addr) (sp : Sp) (ES : L2.St → XK) (ta tb : TE) : TE := fun σ H Q => ta σ H fun x H1 => tb σ H1 fun y H2 => rOwn2 C sp (ES σ) x y H2 Q
theorem pe_ixO {a b : Expr} {ta tb : TE} {pos : Pos} (m : Meth X.K C "__getitem__" g) (fi : PySem.W.fnIn X.K g = true) (F : FnR X.prog X.w X.K X.mg X.base CX n g sp) (hr : Room (n + 1) X.A) (hx : ∀ σ, PassesAt CX X σ (ES σ))
    (ha : PE X a ta) (hb : PE X b tb) (hs : OwnIx b) : PE X (.Subscript a b pos) (tIxO C sp ES ta tb) := by
  refine ⟨fun pins s σ H Q I h => ?_⟩
  refine Subscript_ (binT (R := fun x y H2 => rOwn2 C sp (ES σ) x y H2 Q) ha hb I h fun v u s2 x y H2 I2 rx ry q => ?_)
  obtain ⟨a, dx, fs, rfl, ha, q⟩ := q
  obtain rfl : v = Value.ref a := rx
  obtain ⟨mA, O, _⟩ := ins_get I2.hok ha
  obtain ⟨od, J, _⟩ := O.look
  obtain ⟨m0, hF⟩ := I2.fr
  exact PySem.W.sub_K hF I2.ok.mod.kin J m.at_ fi m.fn (run_in1 (us := [.ref a, u]) (vs := [.ref a, y]) F hr (hx σ) I2 (.cons rfl (.cons ry .nil)) q) (hs _ _)
/-- o[i] = v -/
def rSetO (C : Addr) (sp : Sp) (E : XK) : TSet := fun o i v H Q => ∃ a dx fs, o = .ref a ∧ H a = some (.ins C dx fs) ∧ sp [o, i, v] H (fun _ H' => Q H') E
theorem set_run {pins : List (Addr × Obj)} {σ : L2.St} {H : Hp} {s : Shared} {o i v : V} {ov iv u : Value} {Q : Hp → Prop} (m : Meth X.K C "__setitem__" g) (nd : PySem.W.mroIn X.K C (.type "collections.deque") = some false)
    (F : FnR X.prog X.w X.K X.mg X.base CX n g sp) (hr : Room n X.A) (hx : PassesAt CX X σ (ES σ)) (I : Inv X pins σ H s) (ro : RelV o ov) (ri : RelV i iv) (rv : RelV v u) (h : rSetO C sp (ES σ) o i v H Q) :
    wpAny (model X.prog X.w) X.A (setItem ov iv u) (fun _ s' => ∃ H', Inv X pins σ H' s' ∧ Q H') X.xe s := by
  obtain ⟨a, dx, fs, rfl, ha, q⟩ := h
  obtain rfl : ov = Value.ref a := ro
  obtain ⟨mA, O, _⟩ := ins_get I.hok ha
  obtain ⟨od, J, _⟩ := O.look
  have run := run_fnRS (us := [.ref a, iv, u]) (vs := [.ref a, i, v]) F hr hx I (.cons rfl (.cons ri (.cons rv .nil))) q
  refine setItem_own I.kIn J m.at_ m.fn nd (wpAny_mono run (fun r s' z => ?_) fun _ _ z => z)
  obtain ⟨v', H', I', _, q'⟩ := z
  exact ⟨H', I', q'⟩
theorem set_own (m : Meth X.K C "__setitem__" g) (nd : PySem.W.mroIn X.K C (.type "collections.deque") = some false) (F : FnR X.prog X.w X.K X.mg X.base CX n g sp) (hr : Room n X.A) (hx : Passes CX X E) : PSet X (rSetO C sp E) := by
  intro pins s σ H o i v ov iv u Q I ro ri rv h
  exact set_run (ES := fun _ => E) m nd F hr (passAll hx σ) I ro ri rv h
/-- x in o -/
def rInO (C : Addr) (sp : Sp) (E : XK) (neg : Bool) : R2 := fun x y H Q => ∃ a dx fs, y = .ref a ∧ H a = some (.ins C dx fs) ∧ sp [y, x] H (fun v H' => ∃ b, v = .bl b ∧ Q (.bl (b != neg)) H') E
theorem op_in_own (m : Meth X.K C "__contains__" g) (F : FnR X.prog X.w X.K X.mg X.base CX n g sp) (hr : Room n X.A) (hx : Passes CX X E) : OpR X (compareOp .In) (rInO C sp E false) := by
  intro pins s σ H x y v u Q I rx ry h
  obtain ⟨a, dx, fs, rfl, ha, q⟩ := h
  obtain rfl : u = Value.ref a := ry
  obtain ⟨mA, O, _⟩ := ins_get I.hok ha
  obtain ⟨od, J, _⟩ := O.look
  have run := run_fnRS (ES := fun _ => E) (us := [.ref a, v]) (vs := [.ref a, x]) F hr (passAll hx σ) I (.cons rfl (.cons rx .nil)) q
  show wpAny _ _ (contains (.ref a) v >>= fun b => pure (Value.bool b)) _ _ s
  refine wpAny_bind (contains_own I.kIn J m.at_ m.fn (wpAny_mono run (fun r s' z => ?_) fun _ _ z => z))
  obtain ⟨v', H', I', rv, b, rfl, q'⟩ := z
  obtain rfl : r = Value.bool b := rv
  refine ⟨b, rfl, wpAny_pure ⟨.bl b, H', I', rfl, ?_⟩⟩
  cases b <;> exact q'
theorem op_notin_own (m : Meth X.K C "__contains__" g) (F : FnR X.prog X.w X.K X.mg X.base CX n g sp) (hr : Room n X.A) (hx : Passes CX X E) : OpR X (compareOp .NotIn) (rInO C sp E true) := by
  intro pins s σ H x y v u Q I rx ry h
  obtain ⟨a, dx, fs, rfl, ha, q⟩ := h
  obtain rfl : u = Value.ref a := ry
  obtain ⟨mA, O, _⟩ := ins_get I.hok ha
  obtain ⟨od, J, _⟩ := O.look
  have run := run_fnRS (ES := fun _ => E) (us := [.ref a, v]) (vs := [.ref a, x]) F hr (passAll hx σ) I (.cons rfl (.cons rx .nil)) q
  show wpAny _ _ (contains (.ref a) v >>= fun b => pure (Value.bool (!b))) _ _ s
  refine wpAny_bind (contains_own I.kIn J m.at_ m.fn (wpAny_mono run (fun r s' z => ?_) fun _ _ z => z))
  obtain ⟨v', H', I', rv, b, rfl, q'⟩ := z
  obtain rfl : r = Value.bool b := rv
  refine ⟨b, rfl, wpAny_pure ⟨.bl (!b), H', I', rfl, ?_⟩⟩
  cases b <;> exact q'
/-- o op= y -/
def rIpO (C : Addr) (sp : Sp) (E : XK) : TIp := fun x y H Q => ∃ a dx fs, x = .ref a ∧ H a = some (.ins C dx fs) ∧ sp [x, y] H Q E
theorem ip_own {op : Operator} (hs : PySem.W.findIn X.K (.ref C) (dunderI op.info.2) = some (some (.ref g))) (hf : PySem.W.isFn X.K (.ref g) = true) (hm : ∃ cd rest, PySem.W.clsIn X.K C = some cd ∧ cd.mro = .ref C :: rest)
    (F : FnR X.prog X.w X.K X.mg X.base CX n g sp) (hr : Room n X.A) (hx : Passes CX X E) : PIp X op (rIpO C sp E) := by
  intro pins s σ H x y v u Q I rx ry h
  obtain ⟨a, dx, fs, rfl, ha, q⟩ := h
  obtain ⟨cd, rest, hc, hm⟩ := hm
  obtain rfl : v = Value.ref a := rx
  obtain ⟨mA, O, _⟩ := ins_get I.hok ha
  obtain ⟨od, J, _⟩ := O.look
  have run := run_fnRS (ES := fun _ => E) (us := [.ref a, u]) (vs := [.ref a, y]) F hr (passAll hx σ) I (.cons rfl (.cons ry .nil)) q
  refine iand_own I.kIn J hc hm hs hf (wpAny_mono run (fun r s' z => ⟨?_, z⟩) fun _ _ z => z)
  obtain ⟨v', H', I', rv, q'⟩ := z
  rintro rfl
  cases v' with
  | int _ => obtain ⟨_, e⟩ := rv; cases e
  | str _ => obtain ⟨_, e⟩ := rv; cases e
  | byt _ => obtain ⟨_, e⟩ := rv; cases e
  | flt _ => obtain ⟨_, e⟩ := rv; cases e
  | _ => cases rv
end
end OWN

/-! Books, apart from any law: the entries, their answers, dicts of texts by key lists and functions. -/
namespace BK
open PySem L2
abbrev ENT : List Str := ["read late", "read under", "read below", "read above", "write late", "write under", "write below", "write above", "write free passed", "write own passed", "write late passed", "write under passed", "write below passed", "write above passed"]
def chs (e : Str) : List Str :=
  if e = "read late" then ["last", "old", "abort"] else if e = "read under" then ["last", "old", "open", "wait", "abort"]
  else if e = "read below" ∨ e = "read above" then ["last", "open", "wait", "abort"] else if e = "write free passed" ∨ e = "write own passed" then ["put", "abort"]
  else if e = "write late" ∨ e = "write late passed" then ["skip", "abort"] else ["skip", "wait", "wound", "abort"]
theorem ent_nodup : ENT.Nodup := by decide +kernel
theorem ent_len : ENT.length = 14 := rfl
theorem chs_len (e : Str) : (chs e).length ≤ 5 ∧ 0 < (chs e).length := by
  unfold chs
  repeat' split
  all_goals decide
/-! ### membership by values -/
theorem eqV_str (a b : Str) : eqV (.str a) (.str b) = decide (a = b) := by
  show (a == b) = _
  by_cases h : a = b
  · subst h; simp
  · rw [decide_eq_false h]; exact beq_eq_false_iff_ne.mpr h
theorem inV_str (e : Str) (L : List Str) : inV (.str e) (L.map V.str) = decide (e ∈ L) := by
  unfold inV
  rw [List.any_map]
  by_cases h : e ∈ L
  · rw [decide_eq_true h, List.any_eq_true]
    exact ⟨e, h, by show eqV (.str e) (.str e) = true; rw [eqV_str]; exact decide_eq_true rfl⟩
  · rw [decide_eq_false h, List.any_eq_false]
    intro y hy z
    have z' : eqV (.str y) (.str e) = true := z
    rw [eqV_str] at z'
    exact h (of_decide_eq_true z' ▸ hy)
theorem inV_not {v : V} {L : List Str} (h : ∀ e, v = .str e → e ∉ L) : inV v (L.map V.str) = false := by
  cases v with
  | str e => rw [inV_str]; exact decide_eq_false (h e rfl)
  | _ => unfold inV; rw [List.any_map, List.any_eq_false]; intro y _ z; exact absurd z (by simp [eqV])
theorem flat_strs (L : List Str) : (L.map V.str).all flatV = true := by
  rw [List.all_eq_true]
  intro v hv
  obtain ⟨e, _, rfl⟩ := List.mem_map.mp hv
  rfl
/-! ### dicts from texts: their keys in order, and a function -/
def tab {α : Type} (g : α → V) (L : List Str) (f : Str → α) : List (Key × V) := L.map fun e => (Sum.inr e, g (f e))
def put {α : Type} (f : Str → α) (e : Str) (a : α) : Str → α := fun x => if x = e then a else f x
section
variable {α : Type} {g : α → V} {L : List Str} {f : Str → α} {e : Str} {a : α}
theorem put_same : put f e a e = a := if_pos rfl
theorem put_ne {x : Str} (h : x ≠ e) : put f e a x = f x := if_neg h
theorem tab_len : (tab g L f).length = L.length := List.length_map ..
theorem val_tab : ∀ {L : List Str}, valV (tab g L f) (Sum.inr e) = if e ∈ L then some (g (f e)) else none
  | [] => rfl
  | y :: L => by
    have ih := val_tab (L := L)
    unfold valV tab at ih ⊢
    rw [List.map_cons, List.find?_cons]
    by_cases h : y = e
    · subst h
      have d : decide ((Sum.inr y : Key) = Sum.inr y) = true := decide_eq_true rfl
      simp only [d]
      rw [if_pos (List.mem_cons_self ..)] <;> rfl
    · have d : decide ((Sum.inr y : Key) = Sum.inr e) = false := decide_eq_false fun q => h (Sum.inr.inj q)
      simp only [d]
      rw [ih]
      by_cases h2 : e ∈ L
      · rw [if_pos h2, if_pos (List.mem_cons_of_mem _ h2)]
      · rw [if_neg h2, if_neg fun z => (List.mem_cons.mp z).elim (fun q => h q.symm) h2]
theorem val_in (h : e ∈ L) : valV (tab g L f) (Sum.inr e) = some (g (f e)) := by rw [val_tab, if_pos h]
theorem val_out (h : e ∉ L) : valV (tab g L f) (Sum.inr e) = none := by rw [val_tab, if_neg h]
theorem any_tab : ((tab g L f).any fun kv => decide (kv.1 = Sum.inr e)) = decide (e ∈ L) := by
  unfold tab
  rw [List.any_map]
  by_cases h : e ∈ L
  · rw [decide_eq_true h, List.any_eq_true]
    exact ⟨e, h, decide_eq_true rfl⟩
  · rw [decide_eq_false h, List.any_eq_false]
    intro y hy z
    exact h (Sum.inr.inj (of_decide_eq_true z) ▸ hy)
theorem put_in (h : e ∈ L) : putK (tab g L f) (Sum.inr e) (g a) = tab g L (put f e a) := by
  unfold putK
  rw [any_tab, decide_eq_true h, if_pos rfl]
  unfold tab
  rw [List.map_map]
  refine List.map_congr_left fun y _ => ?_
  show (if (Sum.inr y : Key) = Sum.inr e then ((Sum.inr y : Key), g a) else (Sum.inr y, g (f y))) = (Sum.inr y, g (put f e a y))
  by_cases q : y = e
  · subst q
    rw [if_pos rfl, put_same]
  · rw [if_neg fun z => q (Sum.inr.inj z), put_ne q]
theorem put_new (h : e ∉ L) : putK (tab g L f) (Sum.inr e) (g a) = tab g (L ++ [e]) (put f e a) := by
  unfold putK
  rw [any_tab, decide_eq_false h, if_neg Bool.false_ne_true]
  unfold tab
  rw [List.map_append]
  have e1 : L.map (fun x => ((Sum.inr x : Key), g (f x))) = L.map (fun x => ((Sum.inr x : Key), g (put f e a x))) :=
    List.map_congr_left fun y hy => by rw [put_ne (x := y) fun q : y = e => h (q ▸ hy)]
  rw [e1]
  have e2 : [e].map (fun x => ((Sum.inr x : Key), g (put f e a x))) = [(Sum.inr e, g a)] := by
    show [((Sum.inr e : Key), g (put f e a e))] = _
    rw [put_same]
  rw [e2]
theorem tab_congr {f' : Str → α} (h : ∀ x ∈ L, f x = f' x) : tab g L f = tab g L f' := List.map_congr_left fun y hy => by rw [h y hy]
end
/-- a table of texts -/
abbrev tabS (L : List Str) (f : Str → Str) : List (Key × V) := tab V.str L f
theorem upd_swap {H : Hp} {a d : Addr} {o1 o2 o3 : HO} (h : d ≠ a) : upd (upd (upd H d o1) a o2) d o3 = upd (upd H d o3) a o2 := by
  funext b
  by_cases h1 : b = d
  · subst h1
    rw [upd_same, upd_ne h, upd_same]
  · rw [upd_ne h1]
    by_cases h2 : b = a
    · subst h2
      rw [upd_same, upd_same]
    · rw [upd_ne h2, upd_ne h2, upd_ne h1, upd_ne h1]
/-- d[k], d a written dict with text keys -/
def rIxKd (K : PySem.W.Frag) (d : Addr) : R2 := fun x y H Q => ∃ (z : Str) (u0 : Value) (v0 : V), x = .ref d ∧ y = .str z ∧ PySem.W.nsIn K d z = some (some u0) ∧ RelV v0 u0 ∧ Q v0 H
theorem ix_kd {X : Cx} {d : Addr} {es : Array DictEntry} {n : Nat} (D : KDict X.K X.w d es n) : IxR X (rIxKd X.K d) := by
  intro value slice pins s σ H x y v u Q I rx ry h hs
  obtain ⟨z, u0, v0, rfl, rfl, e, r, q⟩ := h
  obtain rfl : v = Value.ref d := rx
  obtain ⟨t, rfl⟩ := ry
  exact PyProof.Rows.tail_any (kd_type D I) slot_dict_getitem.lookup (wpAny_getItem_of (PySem.strKind_is X.prog X.w z t) (PySem.W.mapOf_K (prog := X.prog) I.kIn D.at_ D.lit) (PySem.W.find_K D.at_ e) ⟨v0, H, I.tok _, r, q⟩) hs
/-! ### the pairs of a given dict -/
def isAnsB (e : Str) : V → Bool
  | .str a => decide (a ∈ chs e)
  | _ => false
def okPair (q : Str × V) : Bool := decide (q.1 ∈ ENT) && isAnsB q.1 q.2
def fill : List (Str × V) → (Str → Str) → (Str → Str)
  | [], f => f
  | (e, .str a) :: r, f => fill r (put f e a)
  | (_, _) :: r, f => fill r f
def prs (gv : List (Str × V)) : List (Key × V) := gv.map fun q => (Sum.inr q.1, q.2)
theorem prs_len (gv : List (Str × V)) : (prs gv).length = gv.length := List.length_map ..
theorem prs_at {gv : List (Str × V)} {i : Nat} {k : Key} {v : V} (h : (prs gv)[i]? = some (k, v)) : ∃ e, gv[i]? = some (e, v) ∧ k = Sum.inr e := by
  unfold prs at h
  rw [List.getElem?_map] at h
  cases q : gv[i]? with
  | none => rw [q] at h; cases h
  | some p =>
    rw [q] at h
    cases h
    exact ⟨p.1, rfl, rfl⟩
theorem fill_snoc : ∀ {gv : List (Str × V)} {e a : Str} {f : Str → Str}, fill (gv ++ [(e, .str a)]) f = put (fill gv f) e a
  | [], _, _, _ => rfl
  | (e', .str a') :: r, e, a, f => fill_snoc (gv := r) (f := put f e' a')
  | (e', .non) :: r, e, a, f => fill_snoc (gv := r) (f := f)
  | (e', .bl _) :: r, e, a, f => fill_snoc (gv := r) (f := f)
  | (e', .int _) :: r, e, a, f => fill_snoc (gv := r) (f := f)
  | (e', .byt _) :: r, e, a, f => fill_snoc (gv := r) (f := f)
  | (e', .flt _) :: r, e, a, f => fill_snoc (gv := r) (f := f)
  | (e', .ref _) :: r, e, a, f => fill_snoc (gv := r) (f := f)
  | (e', .ty _) :: r, e, a, f => fill_snoc (gv := r) (f := f)
theorem fill_tab {L : List Str} (hL : L.Nodup) {t f : Str → Str} : ∀ x, fill (L.map fun e => (e, V.str (t e))) f x = if x ∈ L then t x else f x := by
  induction L generalizing f with
  | nil => intro x; rfl
  | cons e r ih =>
    intro x
    have nd := List.nodup_cons.mp hL
    show fill (r.map fun e => (e, V.str (t e))) (put f e (t e)) x = _
    rw [ih nd.2]
    by_cases h : x ∈ r
    · rw [if_pos h, if_pos (List.mem_cons_of_mem _ h)]
    · rw [if_neg h]
      by_cases q : x = e
      · subst q
        rw [put_same, if_pos (List.mem_cons_self ..)]
      · rw [put_ne q, if_neg fun z => (List.mem_cons.mp z).elim q h]
theorem tabS_prs {L : List Str} {f : Str → Str} : tabS L f = prs (L.map fun e => (e, V.str (f e))) := by
  unfold tabS tab prs
  rw [List.map_map]
  rfl
/-! ### books -/
/-- at b a book with the answers f, ends e, keep k; its own dict at dx, the answers' dict at d -/
structure Bk (C : Addr) (H : Hp) (b dx d : Addr) (f : Str → Str) (e : Str) (k : Int) : Prop where
  ins : H b = some (.ins C dx [(("_ends" : Str), .str e), (("_keep" : Str), .int k), (("_answers" : Str), .ref d)])
  tbl : H d = some (.dK (tabS ENT f))
theorem Bk.same {C : Addr} {H H' : Hp} {b dx d : Addr} {f : Str → Str} {e : Str} {k : Int} (h : Bk C H b dx d f e k) (s : Same H H') : Bk C H' b dx d f e k := ⟨s _ _ h.ins, s _ _ h.tbl⟩
theorem Bk.ne {C : Addr} {H : Hp} {b dx d : Addr} {f : Str → Str} {e : Str} {k : Int} (h : Bk C H b dx d f e k) : b ≠ d := fun z => by
  have := h.ins
  rw [z, h.tbl] at this
  cases this
/-- all but what stands at d is as it was -/
def But (d : Addr) (H H' : Hp) : Prop := ∀ b o, b ≠ d → H b = some o → H' b = some o
theorem But.upd {d : Addr} {H : Hp} {o : HO} : But d H (upd H d o) := fun b o' hb z => by rw [upd_ne hb]; exact z
theorem But.of {d : Addr} {H H' : Hp} (h : Same H H') : But d H H' := fun b o _ z => h b o z
theorem But.trans {d : Addr} {H H1 H2 : Hp} (a : But d H H1) (b : But d H1 H2) : But d H H2 := fun c o hc h => b c o hc (a c o hc h)
theorem But.same {d : Addr} {H H1 H2 : Hp} (a : But d H H1) (b : Same H1 H2) : But d H H2 := fun c o hc h => b c o (a c o hc h)
end BK

namespace K16
open PySem L2 SI CM BK
section
variable {w : World} {K : PySem.W.Frag} {mg : Str → Option Value} {base : Heap} (T : Txt w K mg)
/-- an error's __init__ with one field -/
def spE1 (C : Addr) (f : Str) : Sp := fun vs H Q _ => ∃ a v, vs = [.ref a, v] ∧ H a = some (exo a C none) ∧ ∀ dx, H dx = none → dx ≠ a → Q .non (upd (upd H dx (exd dx [(f, v)])) a (exo a C (some dx)))
/-- .. with two -/
def spE2 (C : Addr) (f g : Str) : Sp := fun vs H Q _ => ∃ a v u, vs = [.ref a, v, u] ∧ H a = some (exo a C none) ∧ ∀ dx, H dx = none → dx ≠ a → Q .non (upd (upd H dx (exd dx [(g, u), (f, v)])) a (exo a C (some dx)))
theorem ok_BadEntry : FnOk PP w K mg base CX0 1 T.f_BadEntry_init T.d_BadEntry_init ["self", "entry"] (spE1 T.c_BadEntry "entry") := by
  refine ok_sup (N := ["self", "entry", "__class__"]) T.S_BadEntry_init sc_BadEntry_init rfl (show (defScope s_BadEntry_init).names.lookup ("super" : Str) = some .globalImplicit by decide +kernel) rfl rfl (fun vs H Q E h => ?_) (fun A outer s H vs Q E hr h => ?_)
  · obtain ⟨a, v, rfl, _⟩ := h
    rfl
  · obtain ⟨a, v, rfl, ha, k⟩ := h
    refine ⟨a, _, _, _, pa_cons pe_str pa_nil, pss_one (ps_ost (pv 0) (pv 1)), rfl, fun M B u Q' E' s' z => PySem.Calls.evalArgs_plain z, rfl, rfl, rfl, ha, by show 1 ≤ 1000; decide, ha, ?_⟩
    exact ⟨_, rfl, _, rfl, _, _, rfl, T.oex_BadEntry, T.na_BadEntry_entry, .inl ⟨ha, fun dx n ne => k dx n ne⟩⟩
theorem ok_BadAnswer : FnOk PP w K mg base CX0 1 T.f_BadAnswer_init T.d_BadAnswer_init ["self", "entry", "answer"] (spE2 T.c_BadAnswer "entry" "answer") := by
  refine ok_sup (N := ["self", "entry", "answer", "__class__"]) T.S_BadAnswer_init sc_BadAnswer_init rfl (show (defScope s_BadAnswer_init).names.lookup ("super" : Str) = some .globalImplicit by decide +kernel) rfl rfl (fun vs H Q E h => ?_) (fun A outer s H vs Q E hr h => ?_)
  · obtain ⟨a, v, u, rfl, _⟩ := h
    rfl
  · obtain ⟨a, v, u, rfl, ha, k⟩ := h
    refine ⟨a, _, _, _, pa_cons pe_str pa_nil, pss_cons (ps_ost (pv 0) (pv 1)) (pss_one (ps_ost (pv 0) (pv 2))), rfl, fun M B u Q' E' s' z => PySem.Calls.evalArgs_plain z, rfl, rfl, rfl, ha, by show 1 ≤ 1000; decide, ha, ?_⟩
    refine ⟨_, rfl, _, rfl, _, _, rfl, T.oex_BadAnswer, T.na_BadAnswer_entry, .inl ⟨ha, fun dx n ne => ?_⟩⟩
    refine ⟨_, rfl, _, rfl, _, _, rfl, T.oex_BadAnswer, T.na_BadAnswer_answer, .inr ⟨dx, _, upd_same, by rw [upd_ne ne, upd_same], Nat.le_of_ble_eq_true rfl, ?_⟩⟩
    have z := k dx n ne
    rw [← upd_swap (o1 := exd dx [("entry", v)]) ne] at z
    exact z
/-- what raise of an error with one field asks, behind its arguments -/
theorem rz1 {C : Addr} {H : Hp} {v : V} {f : Str} {E : XK} (kF : ∀ d, H d = none → E (.ref C) (some d) (upd H d (.xd [(f, v)]))) :
    (1 : Nat) ≤ 1000 ∧ ∀ a, H a = none → spE1 C f ([V.ref a, v] ++ []) (upd H a (exo a C none)) (fun x H1 => x = .non ∧ ∃ d fs, H1 a = some (exo a C (some d)) ∧ H1 d = some (exd d fs) ∧ H d = none ∧ E (.ref C) (some d) (upd (del H1 a) d (.xd fs))) E0 := by
  refine ⟨by decide, fun a ha => ⟨a, v, rfl, upd_same, fun d hd hne => ⟨rfl, d, [(f, v)], upd_same, ?_, ?_, ?_⟩⟩⟩
  · rw [upd_ne hne, upd_same]
  · rw [upd_ne hne] at hd
    exact hd
  · rw [upd_ne hne] at hd
    have z := kF d hd
    rw [raise_heap ha]
    exact z
theorem rz2 {C : Addr} {H : Hp} {v u : V} {f g : Str} {E : XK} (kF : ∀ d, H d = none → E (.ref C) (some d) (upd H d (.xd [(g, u), (f, v)]))) :
    (2 : Nat) ≤ 1000 ∧ ∀ a, H a = none → spE2 C f g ([V.ref a, v, u] ++ []) (upd H a (exo a C none)) (fun x H1 => x = .non ∧ ∃ d fs, H1 a = some (exo a C (some d)) ∧ H1 d = some (exd d fs) ∧ H d = none ∧ E (.ref C) (some d) (upd (del H1 a) d (.xd fs))) E0 := by
  refine ⟨by decide, fun a ha => ⟨a, v, u, rfl, upd_same, fun d hd hne => ⟨rfl, d, [(g, u), (f, v)], upd_same, ?_, ?_, ?_⟩⟩⟩
  · rw [upd_ne hne, upd_same]
  · rw [upd_ne hne] at hd
    exact hd
  · rw [upd_ne hne] at hd
    have z := kF d hd
    rw [raise_heap ha]
    exact z
/-- the name is an entry -/
def isEnt (v : V) : Prop := ∃ e, v = .str e ∧ e ∈ ENT
def spAns (K : PySem.W.Frag) (C : Addr) : Sp := fun vs H Q E => ∃ v, vs = [v] ∧ flatV v = true ∧
  (∀ e, v = .str e → e ∈ ENT → ∀ p, (∀ H', SqT K H' p ((chs e).map V.str)) → Q (.ref p) H) ∧ (¬ isEnt v → ∀ d, H d = none → E (.ref C) (some d) (upd H d (.xd [(("entry" : Str), v)])))
theorem ans_at : ∀ e ∈ ENT, ∃ p, PySem.W.nsIn K T.o_ANSWERS e = some (some (.ref p)) ∧ ∀ H', SqT K H' p ((chs e).map V.str) := by
  intro e he
  simp only [ENT, List.mem_cons, List.not_mem_nil, or_false] at he
  rcases he with rfl | rfl | rfl | rfl | rfl | rfl | rfl | rfl | rfl | rfl | rfl | rfl | rfl | rfl
  · exact ⟨_, T.n0_ANSWERS, fun H' => by rw [show (chs "read late").map V.str = [.str "last", .str "old", .str "abort"] by decide +kernel]; exact T.q0_ANSWERS H'⟩
  · exact ⟨_, T.n1_ANSWERS, fun H' => by rw [show (chs "read under").map V.str = [.str "last", .str "old", .str "open", .str "wait", .str "abort"] by decide +kernel]; exact T.q1_ANSWERS H'⟩
  · exact ⟨_, T.n2_ANSWERS, fun H' => by rw [show (chs "read below").map V.str = [.str "last", .str "open", .str "wait", .str "abort"] by decide +kernel]; exact T.q2_ANSWERS H'⟩
  · exact ⟨_, T.n3_ANSWERS, fun H' => by rw [show (chs "read above").map V.str = [.str "last", .str "open", .str "wait", .str "abort"] by decide +kernel]; exact T.q3_ANSWERS H'⟩
  · exact ⟨_, T.n4_ANSWERS, fun H' => by rw [show (chs "write late").map V.str = [.str "skip", .str "abort"] by decide +kernel]; exact T.q4_ANSWERS H'⟩
  · exact ⟨_, T.n5_ANSWERS, fun H' => by rw [show (chs "write under").map V.str = [.str "skip", .str "wait", .str "wound", .str "abort"] by decide +kernel]; exact T.q5_ANSWERS H'⟩
  · exact ⟨_, T.n6_ANSWERS, fun H' => by rw [show (chs "write below").map V.str = [.str "skip", .str "wait", .str "wound", .str "abort"] by decide +kernel]; exact T.q6_ANSWERS H'⟩
  · exact ⟨_, T.n7_ANSWERS, fun H' => by rw [show (chs "write above").map V.str = [.str "skip", .str "wait", .str "wound", .str "abort"] by decide +kernel]; exact T.q7_ANSWERS H'⟩
  · exact ⟨_, T.n8_ANSWERS, fun H' => by rw [show (chs "write free passed").map V.str = [.str "put", .str "abort"] by decide +kernel]; exact T.q8_ANSWERS H'⟩
  · exact ⟨_, T.n9_ANSWERS, fun H' => by rw [show (chs "write own passed").map V.str = [.str "put", .str "abort"] by decide +kernel]; exact T.q9_ANSWERS H'⟩
  · exact ⟨_, T.n10_ANSWERS, fun H' => by rw [show (chs "write late passed").map V.str = [.str "skip", .str "abort"] by decide +kernel]; exact T.q10_ANSWERS H'⟩
  · exact ⟨_, T.n11_ANSWERS, fun H' => by rw [show (chs "write under passed").map V.str = [.str "skip", .str "wait", .str "wound", .str "abort"] by decide +kernel]; exact T.q11_ANSWERS H'⟩
  · exact ⟨_, T.n12_ANSWERS, fun H' => by rw [show (chs "write below passed").map V.str = [.str "skip", .str "wait", .str "wound", .str "abort"] by decide +kernel]; exact T.q12_ANSWERS H'⟩
  · exact ⟨_, T.n13_ANSWERS, fun H' => by rw [show (chs "write above passed").map V.str = [.str "skip", .str "wait", .str "wound", .str "abort"] by decide +kernel]; exact T.q13_ANSWERS H'⟩
theorem ok_answers_at : FnOk PP w K mg base (L2.CX PP w) 4 T.f_answers_at T.d_answers_at ["entry"] (spAns K T.c_BadEntry) := by
  refine T.F_answers_at.okX sc_answers_at (fun vs H Q E h => ?_) (fun cdv A outer s H vs Q E hr h => ?_)
  · obtain ⟨v, rfl, _⟩ := h
    rfl
  · obtain ⟨v, rfl, fv, kT, kF⟩ := h
    refine ⟨_, pss_cons (ps_if (pt_cmpR op_notIn_seq (pv 0) (pe_glob (v := .ref T.o_ENTRIES) (by rfl) T.g_ENTRIES rfl) rfl)
 (pss_one (ps_raise rfl (takes_of rfl rfl rfl rfl) (pmk_oex T.oex_BadEntry T.i_BadEntry_init T.t_BadEntry_init (ok_BadEntry T) (hr.mono (by decide)) (b_BadEntry_init T) .nil pass0 (by rfl) T.g_BadEntry (pa_cons (pv 0) pa_nil))))
 pss_nil)
 (pss_one (ps_ret (pe_ix (ix_kd T.kd_ANSWERS) (pe_glob (v := .ref T.o_ANSWERS) (by rfl) T.g_ANSWERS rfl) (pv 0) (fun _ _ => rfl)))), ?_⟩
    refine ⟨_, rfl, T.o_ENTRIES, ENT.map V.str, rfl, .inr (T.q_ENTRIES H), fv, flat_strs _, _, rfl, ?_⟩
    by_cases hE : isEnt v
    · obtain ⟨e, rfl, he⟩ := hE
      obtain ⟨p, hp, hq⟩ := ans_at T e he
      rw [inV_str, decide_eq_true he]
      exact iteF ⟨_, rfl, e, _, .ref p, rfl, rfl, hp, rfl, kT e rfl he p hq⟩
    · rw [inV_not fun e h1 h2 => hE ⟨e, h1, h2⟩]
      exact iteT ⟨_, rfl, rz1 (kF hE)⟩
end
end K16

/-! The program's states apart from any law: items, who is over, bonds; what a step makes of them; how they lie in the heap. -/
namespace MIR
open PySem L2 CM BK
/-! ### lists -/
theorem nd_le {α : Type} [DecidableEq α] : ∀ {l u : List α}, l.Nodup → (∀ x ∈ l, x ∈ u) → l.length ≤ u.length
  | [], _, _, _ => Nat.zero_le _
  | x :: l, u, nd, sub => by
    obtain ⟨nx, nd'⟩ := List.nodup_cons.mp nd
    have hx : x ∈ u := sub x (List.mem_cons_self ..)
    have ih := nd_le (l := l) (u := u.erase x) nd' fun y hy => (List.mem_erase_of_ne fun e : y = x => nx (by rw [← e]; exact hy)).mpr (sub y (List.mem_cons_of_mem _ hy))
    rw [List.length_erase_of_mem hx] at ih
    have : 0 < u.length := List.length_pos_of_mem hx
    show l.length + 1 ≤ _
    omega
theorem sorted_ext : ∀ {l m : List Int}, l.Pairwise (· < ·) → m.Pairwise (· < ·) → (∀ x, x ∈ l ↔ x ∈ m) → l = m
  | [], [], _, _, _ => rfl
  | [], y :: m, _, _, h => absurd ((h y).mpr (List.mem_cons_self ..)) (by simp)
  | x :: l, [], _, _, h => absurd ((h x).mp (List.mem_cons_self ..)) (by simp)
  | x :: l, y :: m, hl, hm, h => by
    obtain ⟨hx, hl'⟩ := List.pairwise_cons.mp hl
    obtain ⟨hy, hm'⟩ := List.pairwise_cons.mp hm
    have e : x = y := by
      rcases List.mem_cons.mp ((h x).mp (List.mem_cons_self ..)) with e | hxm
      · exact e
      · rcases List.mem_cons.mp ((h y).mpr (List.mem_cons_self ..)) with e | hyl
        · exact e.symm
        · have := hx y hyl; have := hy x hxm; omega
    subst e
    refine congrArg _ (sorted_ext hl' hm' fun z => ⟨fun hz => ?_, fun hz => ?_⟩)
    · rcases List.mem_cons.mp ((h z).mp (List.mem_cons_of_mem _ hz)) with e | q
      · have := hx z hz; omega
      · exact q
    · rcases List.mem_cons.mp ((h z).mpr (List.mem_cons_of_mem _ hz)) with e | q
      · have := hy z hz; omega
      · exact q
theorem strict_of {l : List Int} (h : l.Pairwise (· ≤ ·)) (n : l.Nodup) : l.Pairwise (· < ·) :=
  (h.and n).imp fun {a b} ⟨h1, h2⟩ => by omega
theorem strict_nd {l : List Int} (h : l.Pairwise (· < ·)) : l.Nodup := h.imp fun {a b} h => by omega
/-- some ascending list of these -/
theorem perm_asc {l m : List Int} (p : m.Perm l) (s : m.Pairwise (· ≤ ·)) (n : l.Nodup) : m.Pairwise (· < ·) ∧ ∀ x, x ∈ m ↔ x ∈ l :=
  ⟨strict_of s (p.nodup_iff.mpr n), fun x => p.mem_iff⟩
/-! ### the model -/
structure It where
  kept : List (Int × Int)
  opn : Option (Int × Int)
  rd : Int
def it0 : It := ⟨[(0, 0)], none, 0⟩
structure S where
  it : Str → It
  ov : Int → Option Bool
  bd : Int → List Int
def s0 : S := ⟨fun _ => it0, fun _ => none, fun _ => []⟩
/-- all that fall when s is aborted -/
inductive Reach (σ : S) (s : Int) : Int → Prop
  | refl : Reach σ s s
  | step {t u : Int} : Reach σ s u → u ∈ σ.bd t → σ.ov t = none → Reach σ s t
def IsF (σ : S) (s : Int) (L : List Int) : Prop := L.Pairwise (· < ·) ∧ ∀ t, t ∈ L ↔ Reach σ s t
theorem IsF.uniq {σ : S} {s : Int} {L M : List Int} (a : IsF σ s L) (b : IsF σ s M) : L = M := sorted_ext a.1 b.1 fun x => (a.2 x).trans (b.2 x).symm
open Classical in
noncomputable def fal (σ : S) (s : Int) : List Int := if h : ∃ L, IsF σ s L then Classical.choose h else []
theorem fal_eq {σ : S} {s : Int} {L : List Int} (h : IsF σ s L) : fal σ s = L := by
  have e : ∃ L, IsF σ s L := ⟨L, h⟩
  unfold fal
  rw [dif_pos e]
  exact IsF.uniq (Classical.choose_spec e) h
/-- the ascending list of those in L -/
def IsAsc (L M : List Int) : Prop := M.Pairwise (· < ·) ∧ ∀ x, x ∈ M ↔ x ∈ L
theorem IsAsc.uniq {L M N : List Int} (a : IsAsc L M) (b : IsAsc L N) : M = N := sorted_ext a.1 b.1 fun x => (a.2 x).trans (b.2 x).symm
open Classical in
noncomputable def asc (L : List Int) : List Int := if h : ∃ M, IsAsc L M then Classical.choose h else []
theorem asc_eq {L M : List Int} (h : IsAsc L M) : asc L = M := by
  have e : ∃ M, IsAsc L M := ⟨M, h⟩
  unfold asc
  rw [dif_pos e]
  exact IsAsc.uniq (Classical.choose_spec e) h
def relI (L : List Int) (i : It) : It := match i.opn with
  | some (h, _) => if h ∈ L then { i with opn := none } else i
  | none => i
def fallS (σ : S) (L : List Int) : S := ⟨fun n => relI L (σ.it n), fun t => if t ∈ L then some false else σ.ov t, σ.bd⟩
def lastN {α : Type} (n : Nat) (l : List α) : List α := l.drop (l.length - n)
def setI (s : Int) (k : Nat) (i : It) : It := match i.opn with
  | some (h, v) => if h = s then { i with kept := lastN k (i.kept ++ [(s, v)]), opn := none } else i
  | none => i
def waitsOf (σ : S) (s : Int) : List Int := (σ.bd s).filter fun t => (σ.ov t).isNone
def commS (σ : S) (s : Int) (k : Nat) : S := ⟨fun n => setI s k (σ.it n), fun t => if t = s then some true else σ.ov t, σ.bd⟩
/-- what an outcome holds as its value -/
inductive OV where
  | non
  | int (v : Int)
  | tup (l : List Int)
structure Out where
  word : Str
  met : List Str
  val : OV
  fallen : List Int
def placeM (s w : Int) (h : Option Int) : Str := match h with
  | none => if w < s then "free" else "late"
  | some h => if h = s then "own" else if s < w then "under" else if s < h then "below" else "above"
def lastV (i : It) : Int × Int := i.kept.getLastD (0, 0)
def fixM (kind spot : Str) : Str := if kind = "write" then "put" else if spot = "free" then "last" else "open"
def metM (kind spot : Str) (passed : Bool) : Option Str :=
  if kind = "write" ∧ passed = true then some ("write " ++ spot ++ " passed") else if spot = "free" ∨ spot = "own" then none else some (kind ++ " " ++ spot)
def oldM (i : It) (s : Int) : List Int := (i.kept.filter fun p => decide (p.1 < s)).map (·.2)
def bindM (ends spot ans : Str) : Bool := decide (ends = "after") && if ans = "open" then decide (spot ≠ "own") else decide (ans = "skip") && (decide (spot = "below") || decide (spot = "above"))
def bondS (σ : S) (s h : Int) : S := if h ∈ σ.bd s then σ else { σ with bd := fun t => if t = s then σ.bd s ++ [h] else σ.bd t }
def itS (σ : S) (n : Str) (i : It) : S := { σ with it := fun m => if m = n then i else σ.it m }
def readS (σ : S) (n : Str) (s : Int) : S := if s ≤ (σ.it n).rd then σ else itS σ n { σ.it n with rd := s }
structure Bkm where
  f : Str → Str
  ends : Str
  keep : Nat
def hOf (i : It) : Option Int := i.opn.map (·.1)
def hInt (i : It) : Int := match i.opn with | some (h, _) => h | none => 0
def valM (i : It) (s : Int) (ans : Str) : OV :=
  if ans = "open" then (match i.opn with | some (_, v) => .int v | none => .non) else if ans = "old" then .int ((oldM i s).getLastD 0) else .int (lastV i).2
noncomputable def askM (B : Bkm) (σ : S) (kind : Str) (s : Int) (n : Str) (v : Int) : S × Out :=
  let i := σ.it n
  let spot := placeM s (lastV i).1 (hOf i)
  let e := metM kind spot (decide (i.rd > s))
  let met : List Str := match e with | none => [] | some e => [e]
  let ans : Str := match e with | none => fixM kind spot | some e => B.f e
  if ans = "wait" then (σ, ⟨"wait", met, .tup [hInt i], []⟩)
  else if ans = "wound" then (fallS σ (fal σ (hInt i)), ⟨"wound", met, .non, fal σ (hInt i)⟩)
  else if ans = "abort" ∨ (ans = "old" ∧ oldM i s = []) then (fallS σ (fal σ s), ⟨"abort", met, .non, fal σ s⟩)
  else
    let σ' := if bindM B.ends spot ans = true then bondS σ s (hInt i) else σ
    if kind = "read" then (readS σ' n s, ⟨"read", met, valM i s ans, []⟩)
    else if ans = "skip" then (σ', ⟨"skip", met, .non, []⟩)
    else (itS σ' n { i with opn := some (s, v) }, ⟨"put", met, .non, []⟩)
noncomputable def reqM (B : Bkm) (σ : S) (kind : Str) (s : Int) (n : Str) (v : Int) : S × Out :=
  let r := askM B σ kind s n v
  if r.2.word ≠ "wound" then r
  else if s ∈ r.2.fallen then (r.1, { r.2 with word := "abort" , val := .non })
  else
    let q := askM B r.1 kind s n v
    (q.1, ⟨q.2.word, r.2.met ++ q.2.met, q.2.val, asc (r.2.fallen ++ q.2.fallen)⟩)
inductive Stp where
  | req (kind : Str) (s : Int) (n : Str)
  | com (s : Int)
  | abo (s : Int)
def Stp.who : Stp → Int
  | .req _ s _ => s
  | .com s => s
  | .abo s => s
noncomputable def takeM (B : Bkm) (σ : S) (x : Stp) (v : Int) : S × Out :=
  if (σ.ov x.who).isSome = true then (σ, ⟨"void", [], .non, []⟩)
  else match x with
    | .com s => if waitsOf σ s ≠ [] then (σ, ⟨"wait", [], .tup (asc (waitsOf σ s)), []⟩) else (commS σ s B.keep, ⟨"commit", [], .non, []⟩)
    | .abo s => (fallS σ (fal σ s), ⟨"abort", [], .non, fal σ s⟩)
    | .req k s n => reqM B σ k s n v
/-! ### in the heap -/
inductive F2 {α β : Type} (R : α → β → Prop) : List α → List β → Prop
  | nil : F2 R [] []
  | cons {a b as bs} : R a b → F2 R as bs → F2 R (a :: as) (b :: bs)
section
variable {α β : Type} {R R' : α → β → Prop}
theorem F2.mono (h : ∀ a b, R a b → R' a b) : ∀ {as : List α} {bs : List β}, F2 R as bs → F2 R' as bs
  | _, _, .nil => .nil
  | _, _, .cons r t => .cons (h _ _ r) (t.mono h)
theorem F2.len : ∀ {as : List α} {bs : List β}, F2 R as bs → as.length = bs.length
  | _, _, .nil => rfl
  | _, _, .cons _ t => congrArg (· + 1) t.len
theorem F2.append : ∀ {as as' : List α} {bs bs' : List β}, F2 R as bs → F2 R as' bs' → F2 R (as ++ as') (bs ++ bs')
  | _, _, _, _, .nil, q => q
  | _, _, _, _, .cons r t, q => .cons r (t.append q)
theorem F2.drop (n : Nat) : ∀ {as : List α} {bs : List β}, F2 R as bs → F2 R (as.drop n) (bs.drop n) := by
  induction n with
  | zero => intro as bs h; exact h
  | succ n ih =>
    intro as bs h
    cases h with
    | nil => exact .nil
    | cons r t => exact ih t
theorem F2.take (n : Nat) : ∀ {as : List α} {bs : List β}, F2 R as bs → F2 R (as.take n) (bs.take n) := by
  induction n with
  | zero => intro as bs h; exact .nil
  | succ n ih =>
    intro as bs h
    cases h with
    | nil => exact .nil
    | cons r t => exact .cons r (ih t)
theorem F2.at {i : Nat} : ∀ {as : List α} {bs : List β}, F2 R as bs → ∀ {a : α}, as[i]? = some a → ∃ b, bs[i]? = some b ∧ R a b := by
  induction i with
  | zero =>
    intro as bs h a e
    cases h with
    | nil => cases e
    | cons r t => cases e; exact ⟨_, rfl, r⟩
  | succ i ih =>
    intro as bs h a e
    cases h with
    | nil => cases e
    | cons r t => exact ih t e
theorem F2.at' {i : Nat} : ∀ {as : List α} {bs : List β}, F2 R as bs → ∀ {b : β}, bs[i]? = some b → ∃ a, as[i]? = some a ∧ R a b := by
  induction i with
  | zero =>
    intro as bs h b e
    cases h with
    | nil => cases e
    | cons r t => cases e; exact ⟨_, rfl, r⟩
  | succ i ih =>
    intro as bs h b e
    cases h with
    | nil => cases e
    | cons r t => exact ih t e
theorem F2.snoc {as : List α} {bs : List β} {a : α} {b : β} (h : F2 R as bs) (r : R a b) : F2 R (as ++ [a]) (bs ++ [b]) := h.append (.cons r .nil)
end
/-- a pair of ints -/
def VerAt (H : Hp) (p : Addr) (v : Int × Int) : Prop := H p = some (.tup [.int v.1, .int v.2])
def KeptAt (H : Hp) (k : Addr) (vs : List (Int × Int)) : Prop := ∃ ps : List Addr, H k = some (.tup (ps.map V.ref)) ∧ F2 (VerAt H) ps vs
def hV (i : It) : V := match i.opn with | some (h, _) => .int h | none => .non
def vV (i : It) : V := match i.opn with | some (_, v) => .int v | none => .non
def ItAt (C : Addr) (H : Hp) (p : Addr) (i : It) : Prop := ∃ dx k, H p = some (.ins C dx [("kept", .ref k), ("holder", hV i), ("value", vV i), ("reader", .int i.rd)]) ∧ KeptAt H k i.kept
/-- an item that can be -/
structure WfI (U : List Int) (i : It) : Prop where
  ne : i.kept ≠ []
  le : i.kept.length ≤ 20
  ho : ∀ h v, i.opn = some (h, v) → h ∈ U
/-- at d a dict: what stands at each key -/
structure DR (H : Hp) (d : Addr) (P : Key → Option V → Prop) : Prop where
  ex : ∃ kvs : List (Key × V), H d = some (.dK kvs) ∧ (kvs.map (·.1)).Nodup ∧ ∀ k, P k (valV kvs k)
def ovS (b : Bool) : Str := if b then "committed" else "aborted"
def PStore (C : Addr) (U : List Int) (N : List Str) (H : Hp) (σ : S) : Key → Option V → Prop
  | .inr n, some v => ∃ q, v = .ref q ∧ n ∈ N ∧ ItAt C H q (σ.it n) ∧ WfI U (σ.it n)
  | .inr n, none => σ.it n = it0
  | .inl _, o => o = none
def POver (U : List Int) (σ : S) : Key → Option V → Prop
  | .inl t, some v => ∃ b, v = .str (ovS b) ∧ t ∈ U ∧ σ.ov t = some b
  | .inl t, none => σ.ov t = none
  | .inr _, o => o = none
def PBond (U : List Int) (H : Hp) (σ : S) : Key → Option V → Prop
  | .inl t, some v => ∃ q, v = .ref q ∧ t ∈ U ∧ H q = some (.tup ((σ.bd t).map V.int)) ∧ (σ.bd t).Nodup ∧ ∀ h ∈ σ.bd t, h ∈ U
  | .inl t, none => σ.bd t = []
  | .inr _, o => o = none
structure StAt (CS CI : Addr) (U : List Int) (N : List Str) (H : Hp) (p : Addr) (σ : S) : Prop where
  ex : ∃ dx ds dv db, H p = some (.ins CS dx [("store", .ref ds), ("over", .ref dv), ("bonds", .ref db)]) ∧ ds ≠ dv ∧ ds ≠ db ∧ dv ≠ db ∧
    DR H ds (PStore CI U N H σ) ∧ DR H dv (POver U σ) ∧ DR H db (PBond U H σ)
section
variable {H H' : Hp} {C CS CI p q k d : Addr} {i : It} {U : List Int} {N : List Str} {σ : S} {P P' : Key → Option V → Prop}
theorem VerAt.same {v : Int × Int} (h : VerAt H p v) (s : Same H H') : VerAt H' p v := s _ _ h
theorem KeptAt.same {vs : List (Int × Int)} (h : KeptAt H k vs) (s : Same H H') : KeptAt H' k vs := by
  obtain ⟨ps, h1, h2⟩ := h
  exact ⟨ps, s _ _ h1, h2.mono fun a b r => r.same s⟩
theorem ItAt.same (h : ItAt C H p i) (s : Same H H') : ItAt C H' p i := by
  obtain ⟨dx, k, h1, h2⟩ := h
  exact ⟨dx, k, s _ _ h1, h2.same s⟩
theorem DR.mono (h : DR H d P) (s : Same H H') (m : ∀ k o, P k o → P' k o) : DR H' d P' := by
  obtain ⟨kvs, h1, h2, h3⟩ := h.ex
  exact ⟨kvs, s _ _ h1, h2, fun k => m _ _ (h3 k)⟩
theorem PStore.same (s : Same H H') : ∀ k o, PStore C U N H σ k o → PStore C U N H' σ k o
  | .inr _, some _, ⟨q, h1, h2, h3, h4⟩ => ⟨q, h1, h2, h3.same s, h4⟩
  | .inr _, none, h => h
  | .inl _, _, h => h
theorem PBond.same (s : Same H H') : ∀ k o, PBond U H σ k o → PBond U H' σ k o
  | .inl _, some _, ⟨q, h1, h2, h3, h4⟩ => ⟨q, h1, h2, s _ _ h3, h4⟩
  | .inl _, none, h => h
  | .inr _, _, h => h
theorem StAt.same (h : StAt CS CI U N H p σ) (s : Same H H') : StAt CS CI U N H' p σ := by
  obtain ⟨dx, ds, dv, db, h1, n1, n2, n3, h2, h3, h4⟩ := h.ex
  exact ⟨dx, ds, dv, db, s _ _ h1, n1, n2, n3, h2.mono s (PStore.same s), h3.mono s fun _ _ z => z, h4.mono s (PBond.same s)⟩
end
/-- the value's object -/
def OvAt (H : Hp) (v : V) : OV → Prop
  | .non => v = .non
  | .int z => v = .int z
  | .tup l => ∃ q, v = .ref q ∧ H q = some (.tup (l.map V.int))
def OutAt (H : Hp) (p : Addr) (o : Out) : Prop := ∃ m v f, H p = some (.tup [.str o.word, .ref m, v, .ref f]) ∧ H m = some (.tup (o.met.map V.str)) ∧ OvAt H v o.val ∧ H f = some (.tup (o.fallen.map V.int))
theorem OvAt.same {H H' : Hp} {v : V} (s : Same H H') : ∀ {o : OV}, OvAt H v o → OvAt H' v o
  | .non, h => h
  | .int _, h => h
  | .tup _, ⟨q, h1, h2⟩ => ⟨q, h1, s _ _ h2⟩
theorem OutAt.same {H H' : Hp} {p : Addr} {o : Out} (h : OutAt H p o) (s : Same H H') : OutAt H' p o := by
  obtain ⟨m, v, f, h1, h2, h3, h4⟩ := h
  exact ⟨m, v, f, s _ _ h1, s _ _ h2, h3.same s, s _ _ h4⟩
/-- the pair (state, outcome) -/
def PairAt (CS CI : Addr) (U : List Int) (N : List Str) (H : Hp) (p : Addr) (r : S × Out) : Prop := ∃ a b, H p = some (.tup [.ref a, .ref b]) ∧ StAt CS CI U N H a r.1 ∧ OutAt H b r.2
end MIR

/-! Short texts: the mathematics, without any Python. -/
namespace TX
open PySem L2 TL
inductive Kd where
  | rd | wr | cm | ab
def Kd.sg : Kd → Nat
  | .rd => 114 | .wr => 119 | .cm => 99 | .ab => 97
def Kd.nm : Kd → Str
  | .rd => "read" | .wr => "write" | .cm => "commit" | .ab => "abort"
def Kd.has : Kd → Bool
  | .rd => true | .wr => true | .cm => false | .ab => false
theorem Kd.sg_nm (k : Kd) : (tl k.nm)[0]? = some k.sg := by cases k <;> decide +kernel
theorem Kd.nm_len (k : Kd) : k.nm.length ≤ 6 ∧ 0 < k.nm.length := by cases k <;> decide +kernel
def topN : Nat := 1000000000000000000000000000000
/-- the signs of a word -/
def wordL (k : Kd) (n : Nat) : List Nat := k.sg :: numL n
def word (p : Kd × Nat) : Str := ⟨(wordL p.1 p.2).toArray⟩
theorem tl_word (p : Kd × Nat) : tl (word p) = wordL p.1 p.2 := rfl
/-- a stamp's numeral -/
def numOk (d : List Nat) : Bool := decide (1 ≤ d.length) && decide (d.length ≤ 31) && !decide (d.head? = some 48) && d.all (fun c => decide (48 ≤ c) && decide (c ≤ 57)) && decide (NumText.digitsVal d ≤ topN)
def sgOk (c : Nat) : Bool := decide (c = 114) || decide (c = 119) || decide (c = 99) || decide (c = 97)
def wordOk : List Nat → Bool
  | c :: d => sgOk c && numOk d
  | [] => false
theorem numL_head {n : Nat} (h : 1 ≤ n) : (numL n).head? ≠ some 48 := by
  induction n using Nat.strongRecOn with
  | _ n ih =>
    by_cases h10 : n < 10
    · rw [numL_lt h10]
      intro e
      have e' : 48 + n = 48 := by simpa using e
      omega
    · rw [numL_step (by omega)]
      have r := ih (n / 10) (by omega) (by omega)
      have ne := numL_ne (n / 10)
      cases hq : numL (n / 10) with
      | nil => exact absurd hq ne
      | cons c r' =>
        rw [hq] at r
        exact r
theorem numL_all (n : Nat) : (numL n).all (fun c => decide (48 ≤ c) && decide (c ≤ 57)) = true := by
  rw [List.all_eq_true]
  intro c hc
  have r := numL_digits n c hc
  simp only [Bool.and_eq_true, decide_eq_true_eq]
  omega
theorem numL_len31 {n : Nat} (h : n ≤ topN) : (numL n).length ≤ 31 := numL_len (by decide) (Nat.lt_of_le_of_lt h (by decide))
theorem numOk_num {n : Nat} (h1 : 1 ≤ n) (h2 : n ≤ topN) : numOk (numL n) = true := by
  unfold numOk
  have a1 : 1 ≤ (numL n).length := by
    cases hq : numL n with
    | nil => exact absurd hq (numL_ne n)
    | cons c r => simp
  rw [decide_eq_true a1, decide_eq_true (numL_len31 h2), decide_eq_false (numL_head h1), numL_all, numL_val, decide_eq_true h2]
  rfl
theorem numOk_big {n : Nat} (h : topN < n) : numOk (numL n) = false := by
  unfold numOk
  rw [numL_val, decide_eq_false (show ¬ n ≤ topN by omega), Bool.and_false]
theorem sgOk_sg (k : Kd) : sgOk k.sg = true := by cases k <;> rfl
theorem wordOk_word {k : Kd} {n : Nat} (h1 : 1 ≤ n) (h2 : n ≤ topN) : wordOk (wordL k n) = true := by
  show (sgOk k.sg && numOk (numL n)) = true
  rw [sgOk_sg, numOk_num h1 h2]
  rfl
theorem word_len {k : Kd} {n : Nat} (h2 : n ≤ topN) : (wordL k n).length ≤ 32 := by
  show (numL n).length + 1 ≤ 32
  have := numL_len31 h2
  omega
theorem word_free {k : Kd} {n : Nat} : (32 : Nat) ∉ wordL k n := by
  intro h
  rcases List.mem_cons.mp h with h | h
  · cases k <;> cases h
  · exact numL_free (.inl (by decide)) h
/-! ### texts of words -/
abbrev sp : Str := " "
theorem tl_sp : tl sp = [32] := by decide +kernel
/-- the first piece of a word (a word with a blank in it is two) -/
def Heads (w b : List Nat) : Prop := (32 ∉ w ∧ b = w) ∨ ∃ x, w = b ++ 32 :: x ∧ 32 ∉ b
theorem spl_heads {w b : List Nat} (h : Heads w b) (post : List (List Nat)) : ∃ rest, spl [32] 0 [] (joinL [32] (w :: post)) = b :: rest := by
  rcases h with ⟨h, rfl⟩ | ⟨x, rfl, h⟩
  · cases post with
    | nil => exact ⟨[], by show spl [32] 0 [] b = _; rw [spl_last1 h]; rfl⟩
    | cons q r => exact ⟨_, spl_part1 (acc := []) (rest := joinL [32] (q :: r)) h⟩
  · cases post with
    | nil =>
      refine ⟨spl [32] 0 [] x, ?_⟩
      exact spl_part1 (acc := []) (rest := x) h
    | cons q r =>
      refine ⟨spl [32] 0 [] (x ++ ([32] ++ joinL [32] (q :: r))), ?_⟩
      have e : joinL [32] ((b ++ 32 :: x) :: q :: r) = b ++ ([32] ++ (x ++ ([32] ++ joinL [32] (q :: r)))) := by
        show (b ++ 32 :: x) ++ ([32] ++ joinL [32] (q :: r)) = _
        simp
      rw [e]
      exact spl_part1 (acc := []) h
theorem spl_pre {w b : List Nat} (h : Heads w b) (post : List (List Nat)) : ∀ {pre : List (List Nat)}, (∀ p ∈ pre, 32 ∉ p) → ∃ rest, spl [32] 0 [] (joinL [32] (pre ++ w :: post)) = pre ++ b :: rest
  | [], _ => spl_heads h post
  | p :: r, hp => by
    obtain ⟨rest, e⟩ := spl_pre h post (pre := r) fun z hz => hp z (List.mem_cons_of_mem _ hz)
    refine ⟨rest, ?_⟩
    have e2 : joinL [32] ((p :: r) ++ w :: post) = p ++ ([32] ++ joinL [32] (r ++ w :: post)) := by
      cases r with
      | nil => rfl
      | cons _ _ => rfl
    rw [e2]
    have z := spl_part1 (s := 32) (S := []) (acc := []) (rest := joinL [32] (r ++ w :: post)) (hp p (List.mem_cons_self ..))
    show spl [32] 0 [] (p ++ ([32] ++ joinL [32] (r ++ w :: post))) = p :: (r ++ b :: rest)
    rw [← e]
    exact z
theorem sp_ok : sp.cps.all (· < 256) = true := by decide +kernel
theorem split_tl (x : Str) : (Txt.split x sp).map tl = spl [32] 0 [] (tl x) := by
  rw [split_spl x sp (by rw [tl_sp]; simp) (kind_ok sp_ok), tl_sp]
theorem tl_joinS (ws : List Str) : tl (Txt.join sp ws) = joinL [32] (ws.map tl) := by rw [join_eq, tl_join, tl_sp]
theorem free_words {L : List (Kd × Nat)} : ∀ p ∈ (L.map word).map tl, (32 : Nat) ∉ p := by
  intro p hp
  obtain ⟨w, hw, rfl⟩ := List.mem_map.mp hp
  obtain ⟨q, _, rfl⟩ := List.mem_map.mp hw
  exact word_free
/-- a text of good words, split -/
theorem split_good {L : List (Kd × Nat)} (h : L ≠ []) : Txt.split (Txt.join sp (L.map word)) sp = L.map word :=
  split_join (s := 32) (S := []) tl_sp sp_ok (fun e => h (List.map_eq_nil_iff.mp e)) fun p hp => by
    obtain ⟨q, _, rfl⟩ := List.mem_map.mp hp
    exact word_free
/-- a text with a bad word behind good ones, split -/
theorem split_bad {L : List (Kd × Nat)} {w b : Str} (h : Heads (tl w) (tl b)) (post : List Str) : ∃ rest, Txt.split (Txt.join sp (L.map word ++ w :: post)) sp = L.map word ++ b :: rest := by
  obtain ⟨rest, e⟩ := spl_pre h (post.map tl) (free_words (L := L))
  refine ⟨rest.map fun l => ⟨l.toArray⟩, map_tl_inj ?_⟩
  rw [split_tl, tl_joinS, List.map_append, List.map_cons, e, List.map_append, List.map_cons, List.map_map]
  congr 2
  have : (tl ∘ fun l : List Nat => (⟨l.toArray⟩ : Str)) = id := by
    funext l
    rfl
  rw [List.map_map, this, List.map_id]
theorem joinL_len {c : Nat} : ∀ {ps : List (List Nat)}, (∀ p ∈ ps, p.length ≤ c) → (joinL [32] ps).length ≤ ps.length * (c + 1)
  | [], _ => Nat.zero_le _
  | [p], h => by
    have := h p (List.mem_singleton.mpr rfl)
    show p.length ≤ 1 * (c + 1)
    omega
  | p :: q :: r, h => by
    have h1 := h p (List.mem_cons_self ..)
    have h2 := joinL_len (ps := q :: r) fun z hz => h z (List.mem_cons_of_mem _ hz)
    show (p ++ ([32] ++ joinL [32] (q :: r))).length ≤ (r.length + 1 + 1) * (c + 1)
    rw [List.length_append, List.length_append]
    have e : (r.length + 1 + 1) * (c + 1) = (r.length + 1) * (c + 1) + (c + 1) := by rw [Nat.add_mul, Nat.one_mul]
    have h3 : ((q :: r).length) * (c + 1) = (r.length + 1) * (c + 1) := rfl
    rw [h3] at h2
    have h4 : ([32] : List Nat).length = 1 := rfl
    omega
theorem join_len {c : Nat} {ws : List Str} (h : ∀ w ∈ ws, w.length ≤ c) : (Txt.join sp ws).length ≤ ws.length * (c + 1) := by
  rw [len_tl, tl_joinS]
  have := joinL_len (c := c) (ps := ws.map tl) fun p hp => by
    obtain ⟨w, hw, rfl⟩ := List.mem_map.mp hp
    rw [← len_tl]
    exact h w hw
  rw [List.length_map] at this
  exact this
theorem sum_len {c : Nat} : ∀ {ws : List Str}, (∀ w ∈ ws, w.length ≤ c) → (ws.map (·.length)).sum ≤ ws.length * c
  | [], _ => Nat.zero_le _
  | w :: r, h => by
    have h1 := h w (List.mem_cons_self ..)
    have h2 := sum_len (ws := r) fun z hz => h z (List.mem_cons_of_mem _ hz)
    show w.length + (r.map (·.length)).sum ≤ (r.length + 1) * c
    rw [Nat.add_mul, Nat.one_mul]
    omega
/-- what is no word, and what is read of it -/
def BadW (w : Str) : Prop := w.length ≤ 100 ∧ ∃ b : Str, Heads (tl w) (tl b) ∧ wordOk (tl b) = false ∧ b.length ≤ 100
theorem badW_free {w : Str} (h : ¬ (32 : Nat) ∈ tl w) (o : wordOk (tl w) = false) (l : w.length ≤ 100) : BadW w := ⟨l, w, .inl ⟨h, rfl⟩, o, l⟩
def bads : List Str := ["w", "7", "W2", "x2", "w02", "r0", "c-1", "a+1", "w2x", "2w", "ww2", "r1_0", "c1.0", "w1\n"]
theorem bads_bad : ∀ w ∈ bads, BadW w := by
  intro w hw
  simp only [bads, List.mem_cons, List.not_mem_nil, or_false] at hw
  rcases hw with rfl | rfl | rfl | rfl | rfl | rfl | rfl | rfl | rfl | rfl | rfl | rfl | rfl | rfl
  all_goals exact badW_free (by decide +kernel) (by decide +kernel) (by decide +kernel)
theorem bad_write : BadW "write" := badW_free (by decide +kernel) (by decide +kernel) (by decide +kernel)
theorem bad_empty : BadW "" := badW_free (by decide +kernel) (by decide +kernel) (by decide +kernel)
theorem bad_a00 : BadW "a00" := badW_free (by decide +kernel) (by decide +kernel) (by decide +kernel)
theorem bad_w2 : BadW "w 2" := ⟨by decide +kernel, "w", .inr ⟨[50], by decide +kernel, by decide +kernel⟩, by decide +kernel, by decide +kernel⟩
theorem bad_big {n : Nat} (h : topN < n) (h2 : n < 10 ^ 45) : BadW (⟨(114 :: numL n).toArray⟩ : Str) := by
  have hl : (numL n).length ≤ 45 := numL_len (by decide) h2
  have l : (⟨(114 :: numL n).toArray⟩ : Str).length ≤ 100 := by
    rw [len_tl]
    show (numL n).length + 1 ≤ 100
    omega
  refine badW_free ?_ ?_ l
  · intro z
    rcases List.mem_cons.mp z with z | z
    · cases z
    · exact numL_free (.inl (by decide)) z
  · show (sgOk 114 && numOk (numL n)) = false
    rw [numOk_big h, Bool.and_false]
end TX

namespace K16
open PySem L2 SI CM BK OWN MIR StX TX TL
section
variable {w : World} {K : PySem.W.Frag} {mg : Str → Option Value} {base : Heap} (T : Txt w K mg)
/-- all but p stays -/
def ButP (p : Addr) (H H' : Hp) : Prop := ∀ b o, b ≠ p → H b = some o → H' b = some o
def spItemI (C : Addr) : Sp := fun vs H Q _ => ∃ p dx a b c r, vs = [.ref p, a, b, c, r] ∧ H p = some (.ins C dx []) ∧ ∀ H', ButP p H H' → H' p = some (.ins C dx [("kept", a), ("holder", b), ("value", c), ("reader", r)]) → Q .non H'
theorem ok_Item_init : FnOk PP w K mg base CX0 1 T.f_Item_init T.d_Item_init ["self", "kept", "holder", "value", "reader"] (spItemI T.c_Item) := by
  refine T.F_Item_init.ok sc_Item_init (fun vs H Q E h => ?_) (fun cdv A outer s H vs Q E hr h => ?_)
  · obtain ⟨p, dx, a, b, c, r, rfl, _⟩ := h
    rfl
  · obtain ⟨p, dx, a, b, c, r, rfl, hp, k⟩ := h
    refine ⟨_, pss_cons (ps_fld (pv 0) (pv 1) rfl)
 (pss_cons (ps_fld (pv 0) (pv 2) rfl)
 (pss_cons (ps_fld (pv 0) (pv 3) rfl)
 (pss_one (ps_fld (pv 0) (pv 4) rfl)))), ?_⟩
    refine ⟨_, rfl, _, rfl, p, T.c_Item, dx, _, rfl, hp, T.cl_Item, T.na_Item_kept, by show 0 < 1000; decide, ?_⟩
    refine ⟨_, rfl, _, rfl, p, T.c_Item, dx, _, rfl, upd_same, T.cl_Item, T.na_Item_holder, by show 1 < 1000; decide, ?_⟩
    refine ⟨_, rfl, _, rfl, p, T.c_Item, dx, _, rfl, upd_same, T.cl_Item, T.na_Item_value, by show 2 < 1000; decide, ?_⟩
    refine ⟨_, rfl, _, rfl, p, T.c_Item, dx, _, rfl, upd_same, T.cl_Item, T.na_Item_reader, by show 3 < 1000; decide, ?_⟩
    exact k _ (fun x o n z => by rw [upd_ne n, upd_ne n, upd_ne n, upd_ne n]; exact z) upd_same
def spStateI (C : Addr) : Sp := fun vs H Q _ => ∃ p dx a b c, vs = [.ref p, a, b, c] ∧ H p = some (.ins C dx []) ∧ ∀ H', ButP p H H' → H' p = some (.ins C dx [("store", a), ("over", b), ("bonds", c)]) → Q .non H'
theorem ok_State_init : FnOk PP w K mg base CX0 1 T.f_State_init T.d_State_init ["self", "store", "over", "bonds"] (spStateI T.c_State) := by
  refine T.F_State_init.ok sc_State_init (fun vs H Q E h => ?_) (fun cdv A outer s H vs Q E hr h => ?_)
  · obtain ⟨p, dx, a, b, c, rfl, _⟩ := h
    rfl
  · obtain ⟨p, dx, a, b, c, rfl, hp, k⟩ := h
    refine ⟨_, pss_cons (ps_fld (pv 0) (pv 1) rfl)
 (pss_cons (ps_fld (pv 0) (pv 2) rfl)
 (pss_one (ps_fld (pv 0) (pv 3) rfl))), ?_⟩
    refine ⟨_, rfl, _, rfl, p, T.c_State, dx, _, rfl, hp, T.cl_State, T.na_State_store, by show 0 < 1000; decide, ?_⟩
    refine ⟨_, rfl, _, rfl, p, T.c_State, dx, _, rfl, upd_same, T.cl_State, T.na_State_over, by show 1 < 1000; decide, ?_⟩
    refine ⟨_, rfl, _, rfl, p, T.c_State, dx, _, rfl, upd_same, T.cl_State, T.na_State_bonds, by show 2 < 1000; decide, ?_⟩
    exact k _ (fun x o n z => by rw [upd_ne n, upd_ne n, upd_ne n]; exact z) upd_same
theorem mk_item {C : Addr} {H : Hp} {a b c r : V} {R : VK} {x dx : Addr} (nx : H x = none) (ndx : H dx = none)
    (h : ∀ H', Same H H' → H' x = some (.ins C dx [("kept", a), ("holder", b), ("value", c), ("reader", r)]) → R .non H') :
    spItemI C [.ref x, a, b, c, r] (upd (upd H dx (.own x)) x (.ins C dx [])) R E0 := by
  refine ⟨x, dx, a, b, c, r, rfl, upd_same, fun H' bt hx => h H' (fun q o z => bt q o (ne_of_none z nx) ?_) hx⟩
  rw [upd_ne (ne_of_none z nx), upd_ne (ne_of_none z ndx)]
  exact z
theorem mk_state {C : Addr} {H : Hp} {a b c : V} {R : VK} {x dx : Addr} (nx : H x = none) (ndx : H dx = none)
    (h : ∀ H', Same H H' → H' x = some (.ins C dx [("store", a), ("over", b), ("bonds", c)]) → R .non H') :
    spStateI C [.ref x, a, b, c] (upd (upd H dx (.own x)) x (.ins C dx [])) R E0 := by
  refine ⟨x, dx, a, b, c, rfl, upd_same, fun H' bt hx => h H' (fun q o z => bt q o (ne_of_none z nx) ?_) hx⟩
  rw [upd_ne (ne_of_none z nx), upd_ne (ne_of_none z ndx)]
  exact z
def spFirst (CS CI : Addr) : Sp := fun vs H Q _ => vs = [] ∧ ∀ H' p, Same H H' → H p = none → (∀ U N, StAt CS CI U N H' p s0) → Q (.ref p) H'
theorem dr_nil {H : Hp} {d : Addr} {P : Key → Option V → Prop} (h : H d = some (.dK [])) (p : ∀ k, P k none) : DR H d P := ⟨[], h, List.nodup_nil, p⟩
theorem ok_first : FnOk PP w K mg base CX0 3 T.f_first_state T.d_first_state [] (spFirst T.c_State T.c_Item) := by
  refine T.F_first_state.ok sc_first_state (fun vs H Q E h => ?_) (fun cdv A outer s H vs Q E hr h => ?_)
  · obtain ⟨rfl, _⟩ := h
    rfl
  · obtain ⟨rfl, k⟩ := h
    refine ⟨_, pss_one (ps_ret (pe_make T.mk_State (ok_State_init T) (hr.mono (by decide)) (by rfl) T.g_State (b_State_init T) .nil pass0 (pa_cons pe_dnewK (pa_cons pe_dnewK (pa_cons pe_dnewK pa_nil))))), ?_⟩
    refine fun ds nds dv ndv db ndb x dx nx ndx ne => mk_state nx ndx fun H' sm hx => ⟨rfl, k H' x ?_ ?_ fun U N => ⟨dx, ds, dv, db, hx, ?_, ?_, ?_, ?_, ?_, ?_⟩⟩
    · exact (same_new (same_new (same_new (Same.refl H) nds) ndv) ndb).trans sm
    · exact ((same_new (same_new (same_new (Same.refl H) nds) ndv) ndb)).free nx
    · exact ne_of_none upd_same ndv
    · exact ne_of_none (kp ndv upd_same) ndb
    · exact ne_of_none upd_same ndb
    · exact dr_nil (sm _ _ (kp ndb (kp ndv upd_same))) fun k => by cases k <;> rfl
    · exact dr_nil (sm _ _ (kp ndb upd_same)) fun k => by cases k <;> rfl
    · exact dr_nil (sm _ _ upd_same) fun k => by cases k <;> rfl
/-- the item of a name -/
def spItemOf (CS CI : Addr) : Sp := fun vs H Q _ => ∃ p n U N σ, vs = [.ref p, .str n] ∧ StAt CS CI U N H p σ ∧ ∀ H' q, Same H H' → ItAt CI H' q (σ.it n) → WfI U (σ.it n) → Q (.ref q) H'
theorem wf0 {U : List Int} : WfI U it0 := { ne := (by intro z; cases z), le := (by decide), ho := (fun h v z => by cases z) }
theorem ok_item_of : FnOk PP w K mg base CX0 3 T.f_item_of T.d_item_of ["state", "name"] (spItemOf T.c_State T.c_Item) := by
  refine T.F_item_of.ok sc_item_of (fun vs H Q E h => ?_) (fun cdv A outer s H vs Q E hr h => ?_)
  · obtain ⟨p, n, U, N, σ, rfl, _⟩ := h
    rfl
  · obtain ⟨p, n, U, N, σ, rfl, st, k⟩ := h
    refine ⟨_, pss_cons (ps_if (pt_cmp (pc_din (hu_of hr) (pv 1) (pe_fld (pv 0) rfl)))
 (pss_one (ps_ret (pe_dget (hu_of hr) (pe_fld (pv 0) rfl) (pv 1) (fun _ _ => rfl))))
 pss_nil)
 (pss_one (ps_ret (pe_make T.mk_Item (ok_Item_init T) (hr.mono (by decide)) (by rfl) T.g_Item (b_Item_init T) .nil pass0 (pa_cons (pe_tup (pa_cons (pe_tup (pa_cons pe_int (pa_cons pe_int pa_nil))) pa_nil)) (pa_cons pe_non (pa_cons pe_non (pa_cons pe_int pa_nil))))))), ?_⟩
    obtain ⟨dx, ds, dv, db, hp, n1, n2, n3, D1, D2, D3⟩ := st.ex
    obtain ⟨kvs, hd, nd, hP⟩ := D1.ex
    have g := DGet.k (k := Sum.inr n) hd
    have hn := hP (.inr n)
    refine ⟨_, rfl, _, rfl, p, T.c_State, dx, _, _, rfl, hp, T.cl_State, T.na_State_store, rfl, ds, _, rfl, g, ?_⟩
    cases e : valV kvs (Sum.inr n) with
    | some v =>
      rw [e] at hn g
      obtain ⟨q, rfl, _, hq, wf⟩ := hn
      exact ⟨_, rfl, iteT ⟨_, rfl, p, T.c_State, dx, _, _, rfl, hp, T.cl_State, T.na_State_store, rfl, _, rfl, ds, _, rfl, g, k H q (Same.refl H) hq wf⟩⟩
    | none =>
      rw [e] at hn
      have hn : σ.it n = it0 := hn
      have two : 2 ≤ sizeLine := by decide
      have one : 1 ≤ sizeLine := by decide
      refine ⟨_, rfl, iteF ⟨two, fun t nt => ⟨one, fun u nu x dx' nx ndx ne => mk_item nx ndx fun H' sm hx => ⟨rfl, k H' x ?_ ?_ ?_⟩⟩⟩⟩
      · exact (same_new (same_new (Same.refl H) nt) nu).trans sm
      · rw [hn]
        exact ⟨dx', u, hx, [t], sm _ _ upd_same, .cons (sm _ _ (kp nu upd_same)) .nil⟩
      · rw [hn]; exact wf0
end
end K16

/-! Dict comprehensions over any walk, what stays while a dict is locked, dicts made key by key. -/
namespace MIR
open PySem L2 CM BK
section
variable {J : It} {n : Nat} {G : Hp → Prop} {Y : Nat → Hp → V → Hp → Prop}
/-- a dict comprehension over a walk: Pv by the turn and the heap, the new dict at D within -/
theorem dc_it {J : L2.It} (w : Walk J n G Y) {g : TG} {tt : TT} {tk tv : TE} {vs : List Nat} {σ : L2.St} {H1 : Hp} {D : Addr} {Qd : Hp → Prop} (Pv : Nat → Hp → Prop) (h0 : Pv 0 (upd H1 D (.dK []))) (hG : ∀ i H, i ≤ n → Pv i H → G H)
    (hs : ∀ i x H H', i < n → Pv i H → Y i H x H' → g x (wipe σ vs) H' fun σ2 H2 => wipe σ2 vs = wipe σ vs ∧ tt σ2 H2 fun b H3 =>
      if b = true then tk σ2 H3 fun y H4 => tv σ2 H4 fun z H5 => ∃ kvs k, y = kV k ∧ H5 D = some (.dK kvs) ∧ kvs.length < sizeLine ∧ Pv (i + 1) (upd H5 D (.dK (putK kvs k z))) else Pv (i + 1) H3) (hd : ∀ H, Pv n H → Qd H) :
    ∃ W : Nat → Nat → Hp → Prop, (∃ m, W 0 m (upd H1 D (.dK []))) ∧ ∀ i m H, W i m H →
      (J.stop i H ∧ Qd H) ∨ (J.go i H ∧ ∃ Nx : Hp → Prop, (∀ H', Nx H' → ∃ m', m' < m ∧ W (i + 1) m' H') ∧ ∀ x H', J.yld i H x H' → g x (wipe σ vs) H' fun σ2 H2 => wipe σ2 vs = wipe σ vs ∧ tt σ2 H2 fun b H3 =>
        if b = true then tk σ2 H3 fun y H4 => tv σ2 H4 fun z H5 => ∃ kvs k, y = kV k ∧ H5 D = some (.dK kvs) ∧ kvs.length < sizeLine ∧ Nx (upd H5 D (.dK (putK kvs k z))) else Nx H3) := by
  refine ⟨fun i m H => i ≤ n ∧ m + i = n ∧ Pv i H, ⟨n, Nat.zero_le _, rfl, h0⟩, fun i m H ⟨hi, e, p⟩ => ?_⟩
  have gg := hG i H hi p
  rcases Nat.lt_or_ge i n with h | h
  · exact .inr ⟨w.goes i H h gg, Pv (i + 1), fun H' q => ⟨n - (i + 1), by omega, by omega, by omega, q⟩, fun x H' y => hs i x H H' h p (w.yields i H x H' h gg y)⟩
  · obtain rfl : i = n := Nat.le_antisymm hi h
    exact .inl ⟨w.stops H gg, hd H p⟩
end
/-- what never changes -/
def Stab : HO → Prop
  | .ins _ _ _ => True
  | .tup _ => True
  | _ => False
def SameT (H H' : Hp) : Prop := ∀ b o, Stab o → H b = some o → H' b = some o
section
variable {H H' H'' : Hp} {C p q k d : Addr} {i : It}
theorem SameT.of (s : Same H H') : SameT H H' := fun b o _ h => s b o h
theorem SameT.refl : SameT H H := fun _ _ _ h => h
theorem SameT.trans (s : SameT H H') (t : SameT H' H'') : SameT H H'' := fun b o z h => t b o z (s b o z h)
theorem SameT.chg {o o' : HO} (h : H p = some o) (n : ¬ Stab o) : SameT H (upd H p o') := fun b x z e => by
  rw [upd_ne (fun q => by subst q; rw [h] at e; cases e; exact n z)]
  exact e
theorem SameT.new {o' : HO} (h : H p = none) : SameT H (upd H p o') := fun b x z e => by
  rw [upd_ne (ne_of_none e h)]
  exact e
theorem KeptAt.sameT {vs : List (Int × Int)} (h : KeptAt H k vs) (s : SameT H H') : KeptAt H' k vs := by
  obtain ⟨ps, h1, h2⟩ := h
  exact ⟨ps, s _ _ trivial h1, h2.mono fun a b r => s a (.tup [.int b.1, .int b.2]) trivial r⟩
theorem ItAt.sameT (h : ItAt C H p i) (s : SameT H H') : ItAt C H' p i := by
  obtain ⟨dx, k, h1, h2⟩ := h
  exact ⟨dx, k, s _ _ trivial h1, h2.sameT s⟩
theorem OvAt.sameT {v : V} (s : SameT H H') : ∀ {o : OV}, OvAt H v o → OvAt H' v o
  | .non, h => h
  | .int _, h => h
  | .tup _, ⟨q, h1, h2⟩ => ⟨q, h1, s _ _ trivial h2⟩
theorem OutAt.sameT {o : Out} (h : OutAt H p o) (s : SameT H H') : OutAt H' p o := by
  obtain ⟨m, v, f, h1, h2, h3, h4⟩ := h
  exact ⟨m, v, f, s _ _ trivial h1, s _ _ trivial h2, h3.sameT s, s _ _ trivial h4⟩
end
/-- while the thing at d is locked -/
structure LockS (d : Addr) (od : Obj) (u : HO) (H H' : Hp) : Prop where
  at_ : H' d = some (.frz od u)
  but : ∀ b o, b ≠ d → H b = some o → H' b = some o
section
variable {d p : Addr} {od : Obj} {u : HO} {H H' H'' : Hp}
theorem LockS.start : LockS d od u H (upd H d (.frz od u)) := ⟨upd_same, fun b o n h => by rw [upd_ne n]; exact h⟩
theorem LockS.same (l : LockS d od u H H') (s : Same H' H'') : LockS d od u H H'' := ⟨s _ _ l.at_, fun b o n h => s _ _ (l.but b o n h)⟩
theorem LockS.new (l : LockS d od u H H') {o : HO} (h : H' p = none) : LockS d od u H (upd H' p o) := l.same (CM.same_new (Same.refl _) h)
/-- a thing that is not in H is changed -/
theorem LockS.put (l : LockS d od u H H') {o : HO} (h : H p = none) (n : p ≠ d) : LockS d od u H (upd H' p o) :=
  ⟨by rw [upd_ne n.symm]; exact l.at_, fun b x nb z => by rw [upd_ne (ne_of_none z h)]; exact l.but b x nb z⟩
theorem LockS.free (l : LockS d od u H H') (h : H' p = none) (hd : H d = some u) : H p = none := by
  cases e : H p with
  | none => rfl
  | some o =>
    by_cases q : p = d
    · rw [q, l.at_] at h; cases h
    · rw [l.but p o q e] at h; cases h
theorem LockS.unlock (l : LockS d od u H H') (hd : H d = some u) : Same H (upd H' d u) := fun b o h => by
  by_cases q : b = d
  · rw [q, upd_same, ← hd, ← q]; exact h
  · rw [upd_ne q]; exact l.but b o q h
end
/-- a dict made along the keys of another one -/
structure Made (kvs nkv : List (Key × V)) (i : Nat) (R : Key → V → Prop) : Prop where
  keys : nkv.map (·.1) = (kvs.take i).map (·.1)
  vals : ∀ x ∈ nkv, R x.1 x.2
section
variable {kvs nkv : List (Key × V)} {i : Nat} {R R' : Key → V → Prop} {k : Key} {v z : V}
theorem Made.nil : Made kvs [] 0 R := ⟨rfl, fun x h => by cases h⟩
theorem Made.mono (m : Made kvs nkv i R) (h : ∀ k v, R k v → R' k v) : Made kvs nkv i R' := ⟨m.keys, fun x q => h _ _ (m.vals x q)⟩
theorem keys_take (h : kvs[i]? = some (k, v)) : (kvs.take (i + 1)).map (·.1) = (kvs.take i).map (·.1) ++ [k] := by
  rw [List.take_add_one, h, List.map_append]; rfl
theorem key_new (nd : (kvs.map (·.1)).Nodup) (h : kvs[i]? = some (k, v)) : k ∉ (kvs.take i).map (·.1) := by
  intro z
  have e := keys_take h
  have s : ((kvs.take (i + 1)).map (·.1)).Nodup := by
    rw [List.map_take]
    exact nd.sublist (List.take_sublist _ _)
  rw [e] at s
  exact (List.nodup_append.mp s).2.2 k z k (List.mem_singleton.mpr rfl) rfl
theorem Made.step (m : Made kvs nkv i R) (nd : (kvs.map (·.1)).Nodup) (h : kvs[i]? = some (k, v)) (r : R k z) : Made kvs (putK nkv k z) (i + 1) R := by
  have nk : k ∉ nkv.map (·.1) := by rw [m.keys]; exact key_new nd h
  have vn : valV nkv k = none := by
    cases e : valV nkv k with
    | none => rfl
    | some y => exact absurd (valV_in e) nk
  rw [putK_new z vn]
  refine ⟨by rw [List.map_append, m.keys, keys_take h]; rfl, fun x hx => ?_⟩
  rcases List.mem_append.mp hx with hx | hx
  · exact m.vals x hx
  · rw [List.mem_singleton.mp hx]; exact r
theorem Made.len (m : Made kvs nkv i R) : nkv.length ≤ kvs.length := by
  have e := congrArg List.length m.keys
  rw [List.length_map, List.length_map, List.length_take] at e
  omega
theorem Made.done (m : Made kvs nkv kvs.length R) (nd : (kvs.map (·.1)).Nodup) : (nkv.map (·.1)).Nodup ∧ (∀ k, valV nkv k = none ↔ valV kvs k = none) ∧ ∀ k v, valV nkv k = some v → R k v := by
  have e := m.keys
  rw [List.take_length] at e
  have nd' : (nkv.map (·.1)).Nodup := by rw [e]; exact nd
  have ino : ∀ {l : List (Key × V)} {k : Key}, valV l k = none ↔ k ∉ l.map (·.1) := fun {l k} => ⟨fun h => valV_not h, fun h => by
    cases q : valV l k with
    | none => rfl
    | some y => exact absurd (valV_in q) h⟩
  refine ⟨nd', fun k => by rw [ino, ino, e], fun k v h => ?_⟩
  have hk := valV_in h
  obtain ⟨x, hx, ex⟩ := List.mem_map.mp hk
  have z := val_nodup nd' x hx
  rw [ex] at z
  rw [h] at z
  have r := m.vals x hx
  rw [ex, ← Option.some.inj z] at r
  exact r
theorem val_at (nd : (kvs.map (·.1)).Nodup) (h : kvs[i]? = some (k, v)) : valV kvs k = some v := val_nodup nd (k, v) (List.mem_of_getElem? h)
theorem nd_put (nd : (kvs.map (·.1)).Nodup) : ((putK kvs k v).map (·.1)).Nodup := by
  cases e : valV kvs k with
  | none => exact nd_putK v nd e
  | some y =>
    have : putK kvs k v = kvs.map fun kv => if kv.1 = k then (kv.1, v) else kv := by
      unfold putK
      rw [valV_any, e]; rfl
    rw [this, List.map_map]
    have f : (fun kv : Key × V => (if kv.1 = k then (kv.1, v) else kv).1) = fun kv => kv.1 := by
      funext kv; split <;> rfl
    have : List.map ((fun x : Key × V => x.1) ∘ fun kv => if kv.1 = k then (kv.1, v) else kv) kvs = kvs.map (·.1) := congrArg (fun g => List.map g kvs) f
    rw [this]
    exact nd
/-- a dict's size by what its keys are among -/
theorem len_keys {α : Type} [DecidableEq α] {U : List α} (f : α → Key) (nd : (kvs.map (·.1)).Nodup) (h : ∀ x ∈ kvs, ∃ a ∈ U, x.1 = f a) : kvs.length ≤ U.length := by
  have := nd_le (l := kvs.map (·.1)) (u := U.map f) nd fun x hx => by
    obtain ⟨y, hy, e⟩ := List.mem_map.mp hx
    obtain ⟨a, ha, e2⟩ := h y hy
    exact List.mem_map.mpr ⟨a, ha, by rw [← e2]; exact e⟩
  rwa [List.length_map, List.length_map] at this
end
section
variable {H : Hp} {C d : Addr} {U : List Int} {N : List Str} {σ : S} {kvs : List (Key × V)}
theorem len_store (nd : (kvs.map (·.1)).Nodup) (h : ∀ k, PStore C U N H σ k (valV kvs k)) : kvs.length ≤ N.length := by
  refine len_keys Sum.inr nd fun x hx => ?_
  have e := val_nodup nd x hx
  have z := h x.1
  rw [e] at z
  obtain ⟨k, v⟩ := x
  cases k with
  | inl t => cases z
  | inr n => obtain ⟨q, _, hn, _⟩ := z; exact ⟨n, hn, rfl⟩
theorem len_over (nd : (kvs.map (·.1)).Nodup) (h : ∀ k, POver U σ k (valV kvs k)) : kvs.length ≤ U.length := by
  refine len_keys Sum.inl nd fun x hx => ?_
  have e := val_nodup nd x hx
  have z := h x.1
  rw [e] at z
  obtain ⟨k, v⟩ := x
  cases k with
  | inr t => cases z
  | inl n => obtain ⟨q, _, hn, _⟩ := z; exact ⟨n, hn, rfl⟩
theorem len_bond (nd : (kvs.map (·.1)).Nodup) (h : ∀ k, PBond U H σ k (valV kvs k)) : kvs.length ≤ U.length := by
  refine len_keys Sum.inl nd fun x hx => ?_
  have e := val_nodup nd x hx
  have z := h x.1
  rw [e] at z
  obtain ⟨k, v⟩ := x
  cases k with
  | inr t => cases z
  | inl n => obtain ⟨q, _, hn, _⟩ := z; exact ⟨n, hn, rfl⟩
end
end MIR

namespace K16
open PySem L2 SI CM BK OWN MIR StX TX TL
section
variable {w : World} {K : PySem.W.Frag} {mg : Str → Option Value} {base : Heap} (T : Txt w K mg)
/-- tuple(sorted(..)) of a list of ints -/
def spAsc (K : PySem.W.Frag) : Sp := fun vs H Q _ => ∃ (a : Addr) (ns : List Int), vs = [.ref a] ∧ SqL K H a (ns.map V.int) ∧ ns.length ≤ 900 ∧
  ∀ (H' : Hp) (p : Addr) (ms : List Int), Same H H' → H p = none → ms.Perm ns → ms.Pairwise (· ≤ ·) → H' p = some (.tup (ms.map V.int)) → Q (.ref p) H'
theorem ok_ascending : FnOk PP w K mg base CX0 1 T.f_ascending T.d_ascending ["stamps"] (spAsc K) := by
  refine T.F_ascending.ok sc_ascending (fun vs H Q E h => ?_) (fun cdv A outer s H vs Q E hr h => ?_)
  · obtain ⟨a, ns, rfl, _⟩ := h
    rfl
  · obtain ⟨a, ns, rfl, hS, hl, k⟩ := h
    refine ⟨_, pss_one (ps_ret (pe_callTy call_tuple_of (by rfl) T.n_tuple (by decide +kernel) (pa_cons (pe_callB cr_sortedI (by rfl) T.n_sorted (by decide +kernel) (pa_cons (pe_lc (own := [("stamp", 1)]) (g := gName 1) (tt := tYes) (by rfl) sc_ascending.nd (pi_list (pv 0)) (blkOk_by (N := ["stamps", "stamp"]) (sc := defScope s_ascending) (by decide +kernel)) (fun _ _ _ _ _ => pg_name (i := 1) sc_ascending.nd rfl (Or.inl rfl)) (fun _ _ _ _ _ => pts_nil) (fun _ _ _ _ _ => (pe_callTy call_int1 (by rfl) T.n_int (by decide +kernel) (pa_cons (pv 1) pa_nil)))) pa_nil)) pa_nil))), ?_⟩
    refine ⟨_, rfl, a, rfl, ⟨_, hS⟩, fun D nD => lc_list (K := K) (a := a) (xs := ns.map V.int) (fun i H' => H' D = some (.lst ((ns.take i).map V.int)) ∧ Same H H')
      ⟨upd_same, same_new (Same.refl H) nD⟩ (fun i H' _ h => h.2.seq hS) ?_ ?_⟩
    · rintro i x H1 hx ⟨hD, s1⟩
      rw [List.getElem?_map] at hx
      cases hq : ns[i]? with
      | none => rw [hq] at hx; cases hx
      | some y =>
      rw [hq] at hx
      cases hx
      refine ⟨rfl, _, rfl, .inl ⟨_, rfl, _, hD, small1000 (by rw [List.length_map, List.length_take]; have := (List.getElem?_eq_some_iff.mp hq).1; omega), ?_, fun b o z => ?_⟩⟩
      · rw [upd_same, List.take_add_one, hq, List.map_append]; rfl
      · rw [upd_ne (ne_of_none z nD)]; exact s1 b o z
    · rintro H1 ⟨hD, s1⟩
      rw [List.length_map, List.take_length] at hD
      exact ⟨D, ns, rfl, SqL.of hD, fun ms p pm ps np => ⟨p, _, rfl, .inl ⟨SqL.of upd_same, fun l nl => k _ l ms (same_new (same_new s1 np) nl) (s1.free (by cases e : H1 l with | none => rfl | some o => rw [kp np e] at nl; cases nl)) pm ps upd_same⟩⟩⟩
theorem inV_int (e : Int) (L : List Int) : inV (.int e) (L.map V.int) = decide (e ∈ L) := by
  have eqi : ∀ a b : Int, eqV (.int a) (.int b) = decide (a = b) := fun a b => by
    show (a == b) = _
    by_cases h : a = b
    · subst h; simp
    · rw [decide_eq_false h]; exact beq_eq_false_iff_ne.mpr h
  unfold inV
  rw [List.any_map]
  by_cases h : e ∈ L
  · rw [decide_eq_true h, List.any_eq_true]
    exact ⟨e, h, by show eqV (.int e) (.int e) = true; rw [eqi]; exact decide_eq_true rfl⟩
  · rw [decide_eq_false h, List.any_eq_false]
    intro y hy z
    have z' : eqV (.int y) (.int e) = true := z
    rw [eqi] at z'
    exact h (of_decide_eq_true z' ▸ hy)
theorem flat_ints (L : List Int) : (L.map V.int).all flatV = true := by
  rw [List.all_eq_true]
  intro v hv
  obtain ⟨e, _, rfl⟩ := List.mem_map.mp hv
  rfl
theorem LockS.of {d : Addr} {od : Obj} {u : HO} {H H1 : Hp} (s : Same H H1) : LockS d od u H (upd H1 d (.frz od u)) := ⟨upd_same, fun b o n h => by rw [upd_ne n]; exact s b o h⟩
/-- the list of those that fall, as far as it is made -/
structure Fl (σ : MIR.S) (s : Int) (U fs : List Int) : Prop where
  nd : fs.Nodup
  st : s ∈ fs
  re : ∀ t ∈ fs, Reach σ s t ∧ t ∈ U
def ClF (σ : MIR.S) (fs : List Int) (k : Nat) : Prop := ∀ i u, i < k → fs[i]? = some u → ∀ t, u ∈ σ.bd t → σ.ov t = none → t ∈ fs
theorem Fl.len {σ : MIR.S} {s : Int} {U fs : List Int} (h : Fl σ s U fs) : fs.length ≤ U.length := nd_le h.nd fun t ht => (h.re t ht).2
theorem Fl.isF {σ : MIR.S} {s : Int} {U fs ms : List Int} (h : Fl σ s U fs) (c : ClF σ fs fs.length) (p : ms.Perm fs) (so : ms.Pairwise (· ≤ ·)) : IsF σ s ms := by
  obtain ⟨a, b⟩ := perm_asc p so h.nd
  refine ⟨a, fun t => (b t).trans ⟨fun z => (h.re t z).1, fun z => ?_⟩⟩
  induction z with
  | refl => exact h.st
  | step r hu ho ih =>
    obtain ⟨i, hi, e⟩ := List.mem_iff_getElem.mp ih
    exact c i _ hi (by rw [List.getElem?_eq_getElem hi, e]) _ hu ho
theorem Fl.snoc {σ : MIR.S} {s t u : Int} {U fs : List Int} (h : Fl σ s U fs) (hu : u ∈ fs) (hb : u ∈ σ.bd t) (ho : σ.ov t = none) (nt : t ∉ fs) (tU : t ∈ U) : Fl σ s U (fs ++ [t]) := by
  refine ⟨List.nodup_append.mpr ⟨h.nd, List.nodup_cons.mpr ⟨List.not_mem_nil, List.nodup_nil⟩, fun a ha b hb e => ?_⟩, List.mem_append.mpr (.inl h.st), fun x hx => ?_⟩
  · rw [List.mem_singleton.mp hb] at e
    exact nt (e ▸ ha)
  · rcases List.mem_append.mp hx with hx | hx
    · exact h.re x hx
    · rw [List.mem_singleton.mp hx]
      exact ⟨.step (h.re u hu).1 hb ho, tU⟩
def spFalling (CS CI : Addr) : Sp := fun vs H Q _ => ∃ (p : Addr) (s : Int) (U : List Int) (N : List Str) (σ : MIR.S), vs = [.ref p, .int s] ∧ StAt CS CI U N H p σ ∧ s ∈ U ∧ U.length ≤ 400 ∧
  ∀ (H' : Hp) (q : Addr) (L : List Int), Same H H' → H q = none → IsF σ s L → (∀ t ∈ L, t ∈ U) → H' q = some (.tup (L.map V.int)) → Q (.ref q) H'
theorem ok_falling : FnOk PP w K mg base CX0 2 T.f_falling T.d_falling ["state", "stamp"] (spFalling T.c_State T.c_Item) := by
  refine T.F_falling.ok sc_falling (fun vs H Q E h => ?_) (fun cdv A outer s H vs Q E hr h => ?_)
  · obtain ⟨p, s, U, N, σ, rfl, _⟩ := h
    rfl
  · obtain ⟨p, s, U, N, σ, rfl, st, hs, hU, kk⟩ := h
    refine ⟨_, pss_cons (ps_set (i := 2) sc_falling.nd rfl (.inl rfl) (pe_lst (pa_cons (pv 1) pa_nil)))
 (pss_cons (ps_set (i := 3) sc_falling.nd rfl (.inl rfl) pe_int)
 (pss_cons (ps_while PassesOwn.never (pt_cmpR op_lt (pv 3) (pe_callB call_len_seq (by rfl) T.n_len PySem.boot_len (pa_cons (pv 2) pa_nil)) (nomark _))
 (pss_cons (ps_lock (ps_for PassesOwn.never rfl (pi_items (pe_fld (pv 0) rfl)) (pg_tup rfl (pgs_cons (pg_name (i := 4) sc_falling.nd rfl (.inl rfl)) (pgs_cons (pg_name (i := 5) sc_falling.nd rfl (.inl rfl)) pgs_nil)))
 (pss_one (ps_if (PW.pt (pw_and (pt_cmpR op_in_seq (pe_ix ix_list (pv 2) (pv 3) (fun _ _ => rfl)) (pv 5) rfl) (pw_and (pt_cmp (pc_dnotin (hu_of hr) (pv 4) (pe_fld (pv 0) rfl))) (pw_and1 (pt_cmpR op_notIn_seq (pv 4) (pv 2) rfl)))))
 (pss_one (ps_expr (pe_bm PySem.F.plainAttrs_list PySem.F.slot_list_append PySem.F.type_list_append mt_append (pv 2) (pa_cons (pv 4) pa_nil))))
 pss_nil))))
 (pss_one (ps_aug (i := 3) sc_falling.nd rfl (.inl rfl) pe_int ip_add))))
 (pss_one (ps_ret (pe_call (ok_ascending T) (hr.mono (by decide)) (by rfl) T.g_ascending T.F_ascending.kp (b_ascending T) .nil pass0 (pa_cons (pv 2) pa_nil)))))), ?_⟩
    obtain ⟨dx, ds, dv, db, hp, n1, n2, n3, D1, D2, D3⟩ := st.ex
    obtain ⟨bv, hbv, bnd, hB⟩ := D3.ex
    obtain ⟨ov, hov, ond, hO⟩ := D2.ex
    have one : 1 ≤ sizeLine := by decide
    refine ⟨_, rfl, one, fun F nF => ?_⟩
    have s0 := same_new (o := .lst [.int s]) (Same.refl H) nF
    have Fdb : F ≠ db := fun z => by rw [z, hbv] at nF; cases nF
    refine while_by (fun τ H' => ∃ (fs : List Int) (k : Nat) (v4 v5 : Option V), τ = [some (.ref p), some (.int s), some (.ref F), some (.int (k : Int)), v4, v5] ∧ H' F = some (.lst (fs.map V.int)) ∧ Same H H' ∧ k ≤ fs.length ∧ Fl σ s U fs ∧ ClF σ fs k)
      (fun τ _ => match τ[3]? with | some (some (V.int k)) => U.length + 1 - k.toNat | _ => 0)
      ⟨[s], 0, none, none, rfl, upd_same, s0, Nat.zero_le _, ⟨List.nodup_cons.mpr ⟨List.not_mem_nil, List.nodup_nil⟩, List.mem_singleton.mpr rfl, fun t ht => by rw [List.mem_singleton.mp ht]; exact ⟨.refl, hs⟩⟩, fun i u hi => absurd hi (Nat.not_lt_zero _)⟩ ?_ ?_
    · rintro τ H1 ⟨fs, k, v4, v5, rfl, hF, s1, hk, fl, cl⟩
      refine ⟨_, rfl, _, rfl, F, _, rfl, .inl (SqL.of hF), _, _, rfl, rfl, _, rfl, ?_⟩
      rw [List.length_map]
      by_cases hlt : (k : Int) < (fs.length : Int)
      · rw [decide_eq_true hlt]
        refine iteT ?_
        have hkl : k < fs.length := by omega
        have hku : fs[k]? = some fs[k] := List.getElem?_eq_getElem hkl
        generalize fs[k] = u at hku
        have huM : u ∈ fs := List.mem_of_getElem? hku
        refine ⟨db, .dK bv, s1 _ _ hbv, trivial, fun od => ?_⟩
        have hpL : (upd H1 db (.frz od (.dK bv))) p = _ := (upd_ne (fun z => by rw [z, hbv] at hp; cases hp)).trans (s1 _ _ hp)
        refine ⟨_, rfl, p, T.c_State, dx, _, _, rfl, hpL, T.cl_State, T.na_State_bonds, rfl, db, od, bv, rfl, upd_same, for_it walk_items (fun j τ H' => ∃ (gs : List Int) (v4 v5 : Option V), τ = [some (.ref p), some (.int s), some (.ref F), some (.int (k : Int)), v4, v5] ∧ H' F = some (.lst (gs.map V.int)) ∧ LockS db od (.dK bv) H H' ∧ (∃ ext, gs = fs ++ ext) ∧ Fl σ s U gs ∧ ∀ x ∈ bv.take j, ∀ t, x.1 = Sum.inl t → u ∈ σ.bd t → σ.ov t = none → t ∈ gs)
          ⟨fs, v4, v5, rfl, by rw [upd_ne Fdb]; exact hF, LockS.of s1, ⟨[], (List.append_nil _).symm⟩, fl, fun x hx => by cases hx⟩ (fun j τ H' _ ⟨_, _, _, _, _, l, _⟩ => l.at_) ?_ ?_⟩
        · rintro j x τ H2 H3 hj ⟨gs, v4, v5, rfl, hF2, l2, ⟨ext, eg⟩, fl2, cov⟩ ⟨T', x1, x2, rfl, nT, rfl, e1, e2⟩
          have e1 : bv[j]?.map (fun kv => kV kv.1) = some x1 := e1
          have e2 : bv[j]?.map Prod.snd = some x2 := e2
          cases hq : bv[j]? with
          | none => rw [hq] at e1; cases e1
          | some kv =>
          obtain ⟨kk', v⟩ := kv
          rw [hq] at e1 e2
          cases e1
          cases e2
          have hb := hB kk'
          rw [val_at bnd hq] at hb
          cases kk' with
          | inr _ => cases hb
          | inl t =>
          obtain ⟨q, rfl, tU, hqt, bnodup, bU⟩ := hb
          have l3 := l2.new (o := .tup [kV (Sum.inl t), .ref q]) nT
          have hF3 := kp (o' := .tup [kV (Sum.inl t), .ref q]) nT hF2
          have hT3 : (upd H2 T' (.tup [kV (Sum.inl t), .ref q])) T' = some (.tup [kV (Sum.inl t), .ref q]) := upd_same
          generalize upd H2 T' (.tup [kV (Sum.inl t), .ref q]) = H3 at l3 hF3 hT3
          have qdb : q ≠ db := fun z => by rw [z, hbv] at hqt; cases hqt
          have pdb : p ≠ db := fun z => by rw [z, hbv] at hp; cases hp
          have hq3 := l3.but _ _ qdb hqt
          have hp3 := l3.but _ _ pdb hp
          have hv3 := l3.but _ _ n3 hov
          have hgk : gs[k]? = some u := by rw [eg, List.getElem?_append_left hkl]; exact hku
          have covS : ∀ {hs : List Int}, (∀ y ∈ gs, y ∈ hs) → (u ∈ σ.bd t → σ.ov t = none → t ∈ hs) → ∀ x ∈ bv.take (j + 1), ∀ t, x.1 = Sum.inl t → u ∈ σ.bd t → σ.ov t = none → t ∈ hs := fun {hs} sub last x hx t' ex hb ho => by
            rw [List.take_add_one, hq] at hx
            rcases List.mem_append.mp hx with hx | hx
            · exact sub _ (cov x hx t' ex hb ho)
            · rw [List.mem_singleton.mp hx] at ex
              cases ex
              exact last hb ho
          refine ⟨T', _, rfl, SqT.of hT3, rfl, _, _, rfl, _, _, rfl, rfl, ?_⟩
          refine ⟨_, rfl, _, rfl, F, _, _, .int u, rfl, rfl, SqL.of hF3, atI_nat (by rw [List.getElem?_map, hgk]; rfl), _, rfl, q, (σ.bd t).map V.int, rfl, .inr (SqT.of hq3), rfl, flat_ints _, _, rfl, ?_⟩
          rw [inV_int]
          have stay : (u ∈ σ.bd t → σ.ov t = none → t ∈ gs) → ∃ (gs' : List Int) (v4 v5 : Option V), [some (.ref p), some (.int s), some (.ref F), some (.int (k : Int)), some (.int t), some (.ref q)] = [some (.ref p), some (.int s), some (.ref F), some (.int (k : Int)), v4, v5] ∧ H3 F = some (.lst (gs'.map V.int)) ∧ LockS db od (.dK bv) H H3 ∧ (∃ ext, gs' = fs ++ ext) ∧ Fl σ s U gs' ∧ ∀ x ∈ bv.take (j + 1), ∀ t, x.1 = Sum.inl t → u ∈ σ.bd t → σ.ov t = none → t ∈ gs' := fun h =>
            ⟨gs, _, _, rfl, hF3, l3, ⟨ext, eg⟩, fl2, covS (fun _ h => h) h⟩
          by_cases hu : u ∈ σ.bd t
          · rw [decide_eq_true hu]
            have g := DGet.k (k := Sum.inl t) hv3
            have ho := hO (.inl t)
            refine iteT ⟨_, rfl, _, rfl, p, T.c_State, dx, _, _, rfl, hp3, T.cl_State, T.na_State_over, rfl, dv, _, rfl, g, ?_⟩
            cases e : valV ov (Sum.inl t) with
            | some v =>
              rw [e] at ho
              obtain ⟨b, _, _, eb⟩ := ho
              exact ⟨_, rfl, iteF (iteF (stay fun _ z => by rw [eb] at z; cases z))⟩
            | none =>
              rw [e] at ho
              refine ⟨_, rfl, iteT ⟨_, rfl, _, rfl, F, _, rfl, .inl (SqL.of hF3), rfl, flat_ints _, _, rfl, ?_⟩⟩
              rw [show inV (kV (Sum.inl t)) (gs.map V.int) = decide (t ∈ gs) from inV_int t gs]
              by_cases ht : t ∈ gs
              · rw [decide_eq_true ht]
                exact iteF (stay fun _ _ => ht)
              · rw [decide_eq_false ht]
                have flS := fl2.snoc (List.mem_of_getElem? hgk) hu ho ht tU
                refine iteT ⟨_, rfl, .inl ⟨rfl, _, SqL.of hF3⟩, _, rfl, F, _, _, rfl, rfl, hF3, small1000 (by rw [List.length_map]; have := fl2.len; omega), gs ++ [t], _, _, rfl, ?_, l3.put nF Fdb, ⟨ext ++ [t], by rw [eg, List.append_assoc]⟩, flS, covS (fun y hy => List.mem_append.mpr (.inl hy)) fun _ _ => List.mem_append.mpr (.inr (List.mem_singleton.mpr rfl))⟩
                rw [upd_same, List.map_append]; rfl
          · rw [decide_eq_false hu]
            exact iteF (iteF (stay fun z => absurd z hu))
        · rintro τ H2 ⟨gs, v4, v5, rfl, hF2, l2, ⟨ext, eg⟩, fl2, cov⟩
          refine ⟨l2.at_, ?_⟩
          rw [List.take_length] at cov
          refine ⟨_, rfl, _, _, rfl, rfl, ⟨gs, k + 1, v4, v5, rfl, ?_, l2.unlock hbv, by rw [eg, List.length_append]; omega, fl2, ?_⟩, ?_⟩
          · rw [upd_ne Fdb]; exact hF2
          · intro i u' hi hu' t hb ho
            by_cases hik : i < k
            · have : fs[i]? = some u' := by rw [eg, List.getElem?_append_left (by omega)] at hu'; exact hu'
              rw [eg]
              exact List.mem_append.mpr (.inl (cl i u' hik this t hb ho))
            · obtain rfl : i = k := by omega
              rw [eg, List.getElem?_append_left hkl, hku] at hu'
              cases hu'
              have hbt := hB (.inl t)
              cases e : valV bv (Sum.inl t) with
              | none => rw [e] at hbt; rw [show σ.bd t = [] from hbt] at hb; cases hb
              | some v =>
                have := valV_in e
                obtain ⟨x, hx, ex⟩ := List.mem_map.mp this
                exact cov x hx t ex hb ho
          · show U.length + 1 - ((k : Int) + 1).toNat < U.length + 1 - (k : Int).toNat
            have := fl.len
            omega
      · rw [decide_eq_false hlt]
        obtain rfl : k = fs.length := by omega
        exact iteF ⟨_, rfl, F, fs, rfl, SqL.of hF, by have := fl.len; omega, fun H' q ms sm nq pm ps hq => kk H' q ms (s1.trans sm) (s1.free nq) (fl.isF cl pm ps) (fun t ht => (fl.re t (pm.mem_iff.mp ht)).2) hq⟩
    · rintro τ H1 Q1 Q2 hQ ⟨v, e1, u, e2, a, xs, e3, e4, i, j, e5, e6, b, e7, q⟩
      exact ⟨v, e1, u, e2, a, xs, e3, e4, i, j, e5, e6, b, e7, hQ _ _ q⟩
end
end K16

namespace K16
open PySem L2 SI CM BK OWN MIR StX TX TL
section
variable {w : World} {K : PySem.W.Frag} {mg : Str → Option Value} {base : Heap} (T : Txt w K mg)
def spReleased (CI : Addr) : Sp := fun vs H Q _ => ∃ (p f : Addr) (i : MIR.It) (L : List Int), vs = [.ref p, .ref f] ∧ ItAt CI H p i ∧ H f = some (.tup (L.map V.int)) ∧ ∀ (H' : Hp) (q : Addr), Same H H' → ItAt CI H' q (relI L i) → Q (.ref q) H'
theorem ok_released : FnOk PP w K mg base CX0 3 T.f_released T.d_released ["item", "fallen"] (spReleased T.c_Item) := by
  refine T.F_released.ok sc_released (fun vs H Q E h => ?_) (fun cdv A outer s H vs Q E hr h => ?_)
  · obtain ⟨p, f, i, L, rfl, _⟩ := h
    rfl
  · obtain ⟨p, f, i, L, rfl, hi, hf, kk⟩ := h
    refine ⟨_, pss_cons (ps_if (pt_cmpR op_notIn_seq (pe_fld (pv 0) rfl) (pv 1) rfl)
 (pss_one (ps_ret (pv 0)))
 pss_nil)
 (pss_one (ps_ret (pe_make T.mk_Item (ok_Item_init T) (hr.mono (by decide)) (by rfl) T.g_Item (b_Item_init T) .nil pass0 (pa_cons (pe_fld (pv 0) rfl) (pa_cons pe_non (pa_cons pe_non (pa_cons (pe_fld (pv 0) rfl) pa_nil))))))), ?_⟩
    obtain ⟨dx, ka, hp, hk⟩ := hi
    have fl : flatV (hV i) = true := by unfold hV; split <;> rfl
    refine ⟨_, rfl, p, T.c_Item, dx, _, _, rfl, hp, T.cl_Item, T.na_Item_holder, rfl, _, rfl, f, L.map V.int, rfl, .inr (SqT.of hf), fl, flat_ints _, _, rfl, ?_⟩
    cases ho : i.opn with
    | none =>
      have e0 : hV i = .non := by unfold hV; rw [ho]
      have e1 : inV (hV i) (L.map V.int) = false := by
        rw [e0]; unfold inV; rw [List.any_map, List.any_eq_false]; intro y _ z; exact absurd z (by simp [eqV])
      have e2 : relI L i = i := by unfold relI; rw [ho]
      rw [e2] at kk
      rw [e1]
      exact iteT ⟨_, rfl, kk H p (Same.refl H) ⟨dx, ka, hp, hk⟩⟩
    | some hv =>
      obtain ⟨h, v⟩ := hv
      have e0 : hV i = .int h := by unfold hV; rw [ho]
      have e1 : inV (hV i) (L.map V.int) = decide (h ∈ L) := by rw [e0, inV_int]
      rw [e1]
      by_cases hL : h ∈ L
      · rw [decide_eq_true hL]
        have e2 : relI L i = { i with opn := none } := by unfold relI; rw [ho]; exact if_pos hL
        rw [e2] at kk
        refine iteF ⟨_, rfl, p, T.c_Item, dx, _, _, rfl, hp, T.cl_Item, T.na_Item_kept, rfl, _, rfl, p, T.c_Item, dx, _, _, rfl, hp, T.cl_Item, T.na_Item_reader, rfl, fun x dx' nx ndx ne => mk_item nx ndx fun H' sm hx => ⟨rfl, kk H' x sm ⟨dx', ka, hx, hk.same sm⟩⟩⟩
      · rw [decide_eq_false hL]
        have e2 : relI L i = i := by unfold relI; rw [ho]; exact if_neg hL
        rw [e2] at kk
        exact iteT ⟨_, rfl, kk H p (Same.refl H) ⟨dx, ka, hp, hk⟩⟩
theorem sIx_neg (n k : Nat) (h : 1 ≤ k) : HT.sIx n 0 (some (-(k : Int))) = n - k := by
  have e := HT.clip_eq (-(k : Int)) n 0
  rw [if_pos (by omega)] at e
  omega
theorem map_lastN {α β : Type} (g : α → β) (k : Nat) (l : List α) : lastN k (l.map g) = (lastN k l).map g := by
  unfold lastN
  rw [List.length_map, List.map_drop]
def spSettled (CI : Addr) : Sp := fun vs H Q _ => ∃ (p : Addr) (i : MIR.It) (s : Int) (k : Nat), vs = [.ref p, .int s, .int (k : Int)] ∧ ItAt CI H p i ∧ i.kept.length ≤ 20 ∧ 1 ≤ k ∧ ∀ (H' : Hp) (q : Addr), Same H H' → ItAt CI H' q (setI s k i) → Q (.ref q) H'
theorem ok_settled : FnOk PP w K mg base CX0 3 T.f_settled T.d_settled ["item", "stamp", "keep"] (spSettled T.c_Item) := by
  refine T.F_settled.ok sc_settled (fun vs H Q E h => ?_) (fun cdv A outer s H vs Q E hr h => ?_)
  · obtain ⟨p, i, s, k, rfl, _⟩ := h
    rfl
  · obtain ⟨p, i, s, k, rfl, hi, h20, h1, kk⟩ := h
    refine ⟨_, pss_cons (ps_if (pt_cmpR op_ne (pe_fld (pv 0) rfl) (pv 1) (nomark _))
 (pss_one (ps_ret (pv 0)))
 pss_nil)
 (pss_cons (ps_set (i := 3) sc_settled.nd rfl (.inl rfl) (pe_tup (pa_star (pe_fld (pv 0) rfl) (pa_cons (pe_tup (pa_cons (pv 1) (pa_cons (pe_fld (pv 0) rfl) pa_nil))) pa_nil))))
 (pss_one (ps_ret (pe_make T.mk_Item (ok_Item_init T) (hr.mono (by decide)) (by rfl) T.g_Item (b_Item_init T) .nil pass0 (pa_cons (pe_slice sl_tupA (pv 3) (po_some (pe_un un_neg (pv 2))) po_none) (pa_cons pe_non (pa_cons pe_non (pa_cons (pe_fld (pv 0) rfl) pa_nil)))))))), ?_⟩
    obtain ⟨dx, ka, hp, hk⟩ := hi
    have sc : scal (hV i) (.int s) = true := by unfold hV; split <;> rfl
    refine ⟨_, rfl, p, T.c_Item, dx, _, _, rfl, hp, T.cl_Item, T.na_Item_holder, rfl, _, rfl, sc, _, rfl, ?_⟩
    cases ho : i.opn with
    | none =>
      have e0 : hV i = .non := by unfold hV; rw [ho]
      have e2 : setI s k i = i := by unfold setI; rw [ho]
      rw [e2] at kk
      rw [e0, decide_eq_false (by intro z; cases z)]
      exact iteT ⟨_, rfl, kk H p (Same.refl H) ⟨dx, ka, hp, hk⟩⟩
    | some hv =>
      obtain ⟨h, v⟩ := hv
      have e0 : hV i = .int h := by unfold hV; rw [ho]
      have e1 : vV i = .int v := by unfold vV; rw [ho]
      rw [e0]
      by_cases hL : h = s
      · subst hL
        rw [decide_eq_true rfl]
        have e2 : setI h k i = { i with kept := lastN k (i.kept ++ [(h, v)]), opn := none } := by unfold setI; rw [ho]; exact if_pos rfl
        rw [e2] at kk
        obtain ⟨ps, hka, hps⟩ := hk
        have two : 2 ≤ sizeLine := by decide
        refine iteF ⟨_, rfl, p, T.c_Item, dx, _, _, rfl, hp, T.cl_Item, T.na_Item_kept, rfl, ka, ps.map V.ref, rfl, .inl (SqT.of hka), _, rfl, _, rfl, p, T.c_Item, dx, _, _, rfl, hp, T.cl_Item, T.na_Item_value, rfl, two, fun t nt => ?_⟩
        rw [e1]
        have s1 := same_new (o := .tup [.int h, .int v]) (Same.refl H) nt
        have ht : (upd H t (.tup [.int h, .int v])) t = some (.tup [.int h, .int v]) := upd_same
        generalize upd H t (.tup [.int h, .int v]) = H1 at s1 ht
        refine ⟨by rw [List.length_append, List.length_map]; show ps.length + 1 ≤ _; rw [hps.len]; exact Nat.le_trans (show i.kept.length + 1 ≤ 21 by omega) (by decide), fun u nu => ?_⟩
        have hl : ps.map V.ref ++ [V.ref t] = (ps ++ [t]).map V.ref := by rw [List.map_append]; rfl
        rw [hl]
        have s2 := same_new (o := .tup ((ps ++ [t]).map V.ref)) s1 nu
        have hu : (upd H1 u (.tup ((ps ++ [t]).map V.ref))) u = some (.tup ((ps ++ [t]).map V.ref)) := upd_same
        have ht2 := kp (o' := .tup ((ps ++ [t]).map V.ref)) nu ht
        generalize upd H1 u (.tup ((ps ++ [t]).map V.ref)) = H2 at s2 hu ht2
        have f2 : F2 (VerAt H2) (ps ++ [t]) (i.kept ++ [(h, v)]) := (hps.mono fun a b r => r.same s2).snoc ht2
        have hp2 := s2 _ _ hp
        have fin : ∀ (H3 : Hp) (y : Addr), Same H2 H3 → H3 y = some (.tup ((lastN k (ps ++ [t])).map V.ref)) → KeptAt H3 y (lastN k (i.kept ++ [(h, v)])) := fun H3 y s3 hy =>
          ⟨_, hy, by unfold lastN; rw [f2.len]; exact (f2.drop _).mono fun a b r => r.same s3⟩
        have rest : ∀ (H3 : Hp) (y : Addr), Same H2 H3 → H3 y = some (.tup ((lastN k (ps ++ [t])).map V.ref)) → ∀ x dx', H3 x = none → H3 dx' = none → dx' ≠ x → spItemI T.c_Item [.ref x, .ref y, .non, .non, .int i.rd] (upd (upd H3 dx' (.own x)) x (.ins T.c_Item dx' [])) (fun r H4 => r = .non ∧ Q (.ref x) H4) E0 := fun H3 y s3 hy x dx' nx ndx ne =>
          mk_item nx ndx fun H' sm hx => ⟨rfl, kk H' x ((s2.trans s3).trans sm) ⟨dx', y, hx, (fin H3 y s3 hy).same sm⟩⟩
        refine ⟨_, rfl, _, rfl, _, rfl, _, rfl, u, _, rfl, SqT.of hu, fun hw => ?_, fun hw y ny => ?_⟩
        · have ew : (lastN k (ps ++ [t])).map V.ref = (ps ++ [t]).map V.ref := by
            have := hw.1
            rw [sIx_neg _ _ h1, List.length_map] at this
            unfold lastN
            rw [this, List.drop_zero]
          refine ⟨_, rfl, p, T.c_Item, dx, _, _, rfl, hp2, T.cl_Item, T.na_Item_reader, rfl, ?_⟩
          exact rest H2 u (Same.refl _) (by rw [ew]; exact hu)
        · have ew : cutV ((ps ++ [t]).map V.ref) (some (-(k : Int))) none = (lastN k (ps ++ [t])).map V.ref := by
            unfold cutV lastN
            rw [sIx_neg _ _ h1, HT.sIx_none, List.length_map, List.map_drop]
            exact List.take_of_length_le (by rw [List.length_drop, List.length_map]; exact Nat.le_refl _)
          rw [ew]
          have s3 := same_new (o := .tup ((lastN k (ps ++ [t])).map V.ref)) (Same.refl H2) ny
          refine ⟨_, rfl, p, T.c_Item, dx, _, _, rfl, s3 _ _ hp2, T.cl_Item, T.na_Item_reader, rfl, ?_⟩
          exact rest _ y s3 upd_same
      · rw [decide_eq_false (fun z => hL (V.int.inj z))]
        have e2 : setI s k i = i := by unfold setI; rw [ho]; exact if_neg hL
        rw [e2] at kk
        exact iteT ⟨_, rfl, kk H p (Same.refl H) ⟨dx, ka, hp, hk⟩⟩
end
end K16

/-! Steps of the states' dicts. -/
namespace MIR
open PySem L2 CM BK
section
variable {H H' : Hp} {C d : Addr} {U : List Int} {N : List Str} {σ σ' : S} {kvs nkv : List (Key × V)} {t : Int} {b : Bool}
theorem over_put (nd : (kvs.map (·.1)).Nodup) (hP : ∀ k, POver U σ k (valV kvs k)) (ht : t ∈ U) (h1 : σ'.ov t = some b) (h2 : ∀ x, x ≠ t → σ'.ov x = σ.ov x) :
    ((putK kvs (Sum.inl t) (.str (ovS b))).map (·.1)).Nodup ∧ ∀ k, POver U σ' k (valV (putK kvs (Sum.inl t) (.str (ovS b))) k) := by
  refine ⟨nd_put nd, fun k => ?_⟩
  rw [valV_put]
  by_cases e : k = Sum.inl t
  · rw [if_pos e, e]
    exact ⟨b, rfl, ht, h1⟩
  · rw [if_neg e]
    have z := hP k
    cases k with
    | inr n => exact z
    | inl x =>
      have nx : x ≠ t := fun q => e (by rw [q])
      have q := h2 x nx
      cases e2 : valV kvs (Sum.inl x) with
      | none => rw [e2] at z; exact q.trans z
      | some v =>
        rw [e2] at z
        obtain ⟨b', h3, h4, h5⟩ := z
        exact ⟨b', h3, h4, q.trans h5⟩
theorem over_congr (hP : ∀ k, POver U σ k (valV kvs k)) (h : ∀ x, σ'.ov x = σ.ov x) : ∀ k, POver U σ' k (valV kvs k) := fun k => by
  have z := hP k
  cases k with
  | inr n => exact z
  | inl x =>
    cases e2 : valV kvs (Sum.inl x) with
    | none => rw [e2] at z; exact (h x).trans z
    | some v => rw [e2] at z; obtain ⟨b', h3, h4, h5⟩ := z; exact ⟨b', h3, h4, (h x).trans h5⟩
def RSt (C : Addr) (U : List Int) (N : List Str) (H : Hp) (g : Str → It) : Key → V → Prop := fun k v => ∃ n q, k = .inr n ∧ v = .ref q ∧ n ∈ N ∧ ItAt C H q (g n) ∧ WfI U (g n)
theorem RSt.sameT {g : Str → It} (s : SameT H H') : ∀ k v, RSt C U N H g k v → RSt C U N H' g k v := fun k v ⟨n, q, h1, h2, h3, h4, h5⟩ => ⟨n, q, h1, h2, h3, h4.sameT s, h5⟩
theorem store_map {g : It → It} (h0 : g it0 = it0) (nd : (kvs.map (·.1)).Nodup) (hP : ∀ k, PStore C U N H σ k (valV kvs k)) (m : Made kvs nkv kvs.length (RSt C U N H' fun n => g (σ.it n))) (e : ∀ n, σ'.it n = g (σ.it n)) :
    (nkv.map (·.1)).Nodup ∧ ∀ k, PStore C U N H' σ' k (valV nkv k) := by
  obtain ⟨a, b, c⟩ := m.done nd
  refine ⟨a, fun k => ?_⟩
  have z := hP k
  cases k with
  | inl x =>
    have : valV kvs (Sum.inl x) = none := z
    exact (b _).mpr this
  | inr n =>
    cases e2 : valV nkv (Sum.inr n) with
    | none =>
      rw [(b _).mp e2] at z
      show σ'.it n = it0
      rw [e n, show σ.it n = it0 from z, h0]
    | some v =>
      obtain ⟨n', q, h1, h2, h3, h4, h5⟩ := c _ _ e2
      cases h1
      exact ⟨q, h2, h3, by rw [e n]; exact h4, by rw [e n]; exact h5⟩
theorem bond_congr (hP : ∀ k, PBond U H σ k (valV kvs k)) (s : Same H H') (h : ∀ x, σ'.bd x = σ.bd x) : ∀ k, PBond U H' σ' k (valV kvs k) := fun k => by
  have z := hP k
  cases k with
  | inr n => exact z
  | inl x =>
    cases e2 : valV kvs (Sum.inl x) with
    | none => rw [e2] at z; exact (h x).trans z
    | some v =>
      rw [e2] at z
      obtain ⟨q, h3, h4, h5, h6, h7⟩ := z
      exact ⟨q, h3, h4, by rw [h x]; exact s _ _ h5, by rw [h x]; exact h6, by rw [h x]; exact h7⟩
theorem store_congr (hP : ∀ k, PStore C U N H σ k (valV kvs k)) (s : SameT H H') (h : ∀ x, σ'.it x = σ.it x) : ∀ k, PStore C U N H' σ' k (valV kvs k) := fun k => by
  have z := hP k
  cases k with
  | inl n => exact z
  | inr x =>
    cases e2 : valV kvs (Sum.inr x) with
    | none => rw [e2] at z; exact (h x).trans z
    | some v =>
      rw [e2] at z
      obtain ⟨q, h3, h4, h5, h6⟩ := z
      exact ⟨q, h3, h4, by rw [h x]; exact h5.sameT s, by rw [h x]; exact h6⟩
theorem relI0 {L : List Int} : relI L it0 = it0 := rfl
theorem setI0 {s : Int} {k : Nat} : setI s k it0 = it0 := rfl
theorem WfI.rel {L : List Int} {i : It} (w : WfI U i) : WfI U (relI L i) := by
  unfold relI
  split
  · split
    · exact { ne := w.ne, le := w.le, ho := fun h v z => by cases z }
    · exact w
  · exact w
theorem WfI.set {s : Int} {k : Nat} {i : It} (w : WfI U i) (h1 : 1 ≤ k) (h2 : k ≤ 20) : WfI U (setI s k i) := by
  unfold setI
  split
  · split
    · refine { ne := ?_, le := ?_, ho := fun h v z => by cases z }
      · show lastN k (i.kept ++ [_]) ≠ []
        intro z
        have := congrArg List.length z
        unfold lastN at this
        rw [List.length_drop, List.length_append] at this
        simp at this
        omega
      · show (lastN k (i.kept ++ [_])).length ≤ 20
        unfold lastN
        rw [List.length_drop, List.length_append]
        have := w.le
        simp
        omega
    · exact w
  · exact w
end
end MIR

/-! y = {k: v for ..}: the target is stored within the comprehension's frame. -/
namespace DCS
open PySem PySem.Spec PyProof.Rows L2
section
variable {X : Cx}
abbrev BlkAll (X : Cx) (scope : Scope) (R : Cx → Prop) : Prop := ∀ (s : Shared) (H : Hp) (C : Addr) (cl : List (Str × Addr)) (fp : List Addr), R (X.blk s H scope (compEnvC scope cl C X.env) fp)
theorem ps_setDc {i : Nat} {y : Str} {kx vx tg it : Expr} {ifs : List Expr} {scope : Scope} {own : List (Str × Nat)} {py pos spos : Pos} {wi : TI} {g : TG} {tt : TT} {tk tv : TE}
    (hc : X.calm = true) (hN : X.N.Nodup) (hy : X.N[i]? = some y) (hyl : X.env.scope.names.lookup y = some .local) (hsw : swapsWith (.DictComp kx vx [⟨tg, it, ifs, 0⟩] scope pos) (some (.Name y py)) spos.line X.env = pure true)
    (hi : PI X tg it wi) (ok : BlkOk X.N X.env.scope scope own) (hg : BlkAll X scope fun Z => PG Z tg g) (ht : BlkAll X scope fun Z => PTs Z ifs tt) (hk : BlkAll X scope fun Z => PE Z kx tk) (he : BlkAll X scope fun Z => PE Z vx tv)
    (hs : ∀ x, foldedSetIterable it X.env x = pure x := by intro _; rfl) :
    PS X (.Assign [.Name y py] (.DictComp kx vx [⟨tg, it, ifs, 0⟩] scope pos) spos) (tAsg (tDc wi g tt tk tv (own.map (·.2))) (gName i)) := by
  refine ⟨fun pins s σ H D I h0 => ?_⟩
  rw [exec_Assign_Name_used _ _ _ _ hsw]
  refine wpAny_bind (wpAny_standAt (wpAny_bind ?_))
  show wpAny _ X.A (do let _ ← comprehension (.DictComp kx vx [⟨tg, it, ifs, 0⟩] scope pos) scope X.env (firstIterPos [⟨tg, it, ifs, 0⟩] pos) newDict false (eval it X.env) (some (assign (.Name y py) X.env))) _ _ s
  have h1 : tDc wi g tt tk tv (own.map (·.2)) σ H (fun x H1 => gName i x σ H1 D.nx) := h0
  refine wpAny_bind (thn (dc_core (Qf := fun _ s' => SP X pins D .next s') hc hN I hi ok hg ht hk he hs h1 fun M C s' m H' I' q hn f => ?_) fun _ s' hq => wpAny_pure (wpAny_pure hq))
  show wpAny _ _ (assign (.Name y py) X.env (.ref M)) _ _ _
  refine wpAny_assign_Name (store_ok2 (v := V.ref M) I' hN hy (.inl hyl) rfl (fun s2 I2 ⟨a, sb, ha⟩ => ?_) (.inr hyl))
  obtain ⟨e0, e1, e2, e3, e4, e5⟩ := f
  have hCa : C ≠ a := ha.elim (fun z => by rw [z]; exact e1) fun z e => e4 y a z e.symm
  exact ⟨m, hn.sameBut sb hCa, fun h3 sb3 => ⟨_, H', I2.turned (t' := s2.toks) (fun b o hb e => (sb3.2 b hb).trans e) e0 e1 e3 e4 e5, q⟩⟩
theorem sw_dict {kx vx : Expr} {gs : List Comprehension} {scope : Scope} {pos py : Pos} {y : Str} {l : Nat} {env : Env} (hf : env.scope.kind = .function) (hy : env.scope.names.lookup y = some .local) (hl : (py.line == pos.line) = true)
    (ha : (scope.names.any fun (n, k) => n == y && (k == .local || k == .cell)) = false) : swapsWith (.DictComp kx vx gs scope pos) (some (.Name y py)) l env = pure true := by
  have k1 : env.kindOf y = some .local := hy
  have k2 : env.blockKind = .function := by unfold Env.blockKind; rw [hf]; rfl
  unfold swapsWith
  simp only [k1, k2, ha, Expr.pos, hl]
  rfl
end
end DCS

namespace K16
open PySem L2 SI CM BK OWN MIR StX TX TL
section
variable {w : World} {K : PySem.W.Frag} {mg : Str → Option Value} {base : Heap} (T : Txt w K mg)

theorem ints_at' {ds : List Int} {i : Nat} {x : V} (h : (ds.map V.int)[i]? = some x) : ∃ d, ds[i]? = some d ∧ x = V.int d := by
  rw [List.getElem?_map] at h
  cases q : ds[i]? with
  | none => rw [q] at h; cases h
  | some d => rw [q] at h; exact ⟨d, rfl, (Option.some.inj h).symm⟩
def FellAt (CS CI : Addr) (U : List Int) (N : List Str) (H : Hp) (q : Addr) (σ : MIR.S) (L : List Int) : Prop := ∃ a f, H q = some (.tup [.ref a, .ref f]) ∧ StAt CS CI U N H a σ ∧ H f = some (.tup (L.map V.int))
def spWithout (CS CI : Addr) : Sp := fun vs H Q _ => ∃ (p : Addr) (s : Int) (U : List Int) (N : List Str) (σ : MIR.S), vs = [.ref p, .int s] ∧ StAt CS CI U N H p σ ∧ s ∈ U ∧ U.length ≤ 400 ∧ N.length ≤ 400 ∧
  ∀ (H' : Hp) (q : Addr), Same H H' → FellAt CS CI U N H' q (fallS σ (fal σ s)) (fal σ s) → ((∀ t ∈ fal σ s, t ∈ U) ∧ IsF σ s (fal σ s)) → Q (.ref q) H'
theorem ok_without : FnOk PP w K mg base CX0 5 T.f_without T.d_without ["state", "stamp"] (spWithout T.c_State T.c_Item) := by
  refine T.F_without.ok sc_without (fun vs H Q E h => ?_) (fun cdv A outer s H vs Q E hr h => ?_)
  · obtain ⟨p, s, U, N, σ, rfl, _⟩ := h
    rfl
  · obtain ⟨p, s, U, N, σ, rfl, st, hs, hU, hN, kk⟩ := h
    refine ⟨_, pss_cons (ps_set (i := 2) sc_without.nd rfl (.inr rfl) (pe_call (ok_falling T) (hr.mono (by decide)) (by rfl) T.g_falling T.F_falling.kp (b_falling T) .nil pass0 (pa_cons (pv 0) (pa_cons (pv 1) pa_nil))))
 (pss_cons (ps_set (i := 3) sc_without.nd rfl (.inl rfl) (pe_callTy call_dictD (by rfl) T.n_dict (by decide +kernel) (pa_cons (pe_fld (pv 0) rfl) pa_nil)))
 (C8.pss_cut (ps_for PassesOwn.never rfl (pi_tup (pv 2)) (pg_name (i := 4) sc_without.nd rfl (.inl rfl))
 (pss_one (ps_dput (hu_of hr) (pv 3) (pv 4) pe_str rfl)))
 (C8.pss_cut (ps_lock (DCS.ps_setDc (i := 7) (own := [("name", 5), ("item", 6)]) (g := (gTup K 2 (gCons (gName 5) (gCons (gName 6) gNil)))) (tt := tYes) rfl sc_without.nd rfl rfl (DCS.sw_dict rfl rfl rfl (by decide +kernel)) (pi_items (pe_fld (pv 0) rfl)) (blkOk_by (N := ["state", "stamp", "fallen", "over", "each", "name", "item", "store"]) (sc := defScope s_without) (by decide +kernel)) (fun _ _ _ _ _ => pg_tup rfl (pgs_cons (pg_name (i := 5) sc_without.nd rfl (.inl rfl)) (pgs_cons (pg_name (i := 6) sc_without.nd rfl (.inl rfl)) pgs_nil))) (fun _ _ _ _ _ => pts_nil) (fun _ _ _ _ _ => (pv 5)) (fun _ _ _ _ _ => (pe_call (ok_released T) (hr.mono (by decide)) (by rfl) T.g_released T.F_released.kp (b_released T) .nil pass0 (pa_cons (pv 6) (pa_cons (pv 2) pa_nil))))))
 (pss_one (ps_ret (pe_tup (pa_cons (pe_make T.mk_State (ok_State_init T) (hr.mono (by decide)) (by rfl) T.g_State (b_State_init T) .nil pass0 (pa_cons (pv 7) (pa_cons (pv 3) (pa_cons (pe_fld (pv 0) rfl) pa_nil)))) (pa_cons (pv 2) pa_nil)))))))), ?_⟩
    refine ⟨_, rfl, _, rfl, p, s, U, N, σ, rfl, st, hs, hU, fun H1 f L s1 nf hF hLU hf => ?_⟩
    rw [fal_eq hF] at kk
    obtain ⟨dx, ds, dv, db, hp, n1, n2, n3, D1, D2, D3⟩ := (st.same s1).ex
    obtain ⟨sv, hsv, snd, hSt⟩ := D1.ex
    obtain ⟨ov, hov, ond, hO⟩ := D2.ex
    obtain ⟨bv, hbv, bnd, hB⟩ := D3.ex
    refine ⟨_, rfl, p, T.c_State, dx, _, _, rfl, hp, T.cl_State, T.na_State_over, rfl, dv, ov, rfl, .inl hov, fun B nB => ?_⟩
    have s2 := same_new (o := .dK ov) (Same.refl H1) nB
    have hBo : (upd H1 B (.dK ov)) B = some (.dK ov) := upd_same
    have fB : f ≠ B := ne_of_none hf nB
    generalize upd H1 B (.dK ov) = H2 at s2 hBo
    have hf2 := s2 _ _ hf
    refine ⟨fun τ H' => ∃ (v4 : Option V) (ov' : List (Key × V)), τ = [some (.ref p), some (.int s), some (.ref f), some (.ref B), v4, none, none, none] ∧ H' B = some (.dK ov') ∧ (∀ b o, b ≠ B → H2 b = some o → H' b = some o) ∧ (ov'.map (·.1)).Nodup ∧ ∀ k, POver U (fallS σ L) k (valV ov' k), ?_, ?_⟩
    · refine ⟨_, rfl, f, rfl, ⟨_, SqT.of hf2⟩, for_tup (xs := L.map V.int) (fun i τ H' => ∃ (v4 : Option V) (ov' : List (Key × V)), τ = [some (.ref p), some (.int s), some (.ref f), some (.ref B), v4, none, none, none] ∧ H' B = some (.dK ov') ∧ (∀ b o, b ≠ B → H2 b = some o → H' b = some o) ∧ (ov'.map (·.1)).Nodup ∧ ∀ k, POver U ⟨σ.it, fun t => if t ∈ L.take i then some false else σ.ov t, σ.bd⟩ k (valV ov' k))
        ⟨none, ov, rfl, hBo, fun _ _ _ z => z, ond, over_congr hO fun x => (if_neg (fun z => by cases z) : (if x ∈ L.take 0 then some false else σ.ov x) = σ.ov x)⟩ ?_ ?_ ?_⟩
      · rintro i τ H' _ ⟨v4, ov', _, _, b2, _⟩
        exact SqT.of (b2 _ _ fB hf2)
      · rintro i x τ H' hx ⟨v4, ov', rfl, hB', b2, nd', hO'⟩
        obtain ⟨t, ht, rfl⟩ := ints_at' hx
        have tU := hLU t (List.mem_of_getElem? ht)
        have et : L.take (i + 1) = L.take i ++ [t] := by rw [List.take_add_one, ht]; rfl
        have pu := over_put (σ' := ⟨σ.it, fun x => if x ∈ L.take (i + 1) then some false else σ.ov x, σ.bd⟩) (b := false) nd' hO' tU (by show (if t ∈ L.take (i + 1) then some false else σ.ov t) = some false; rw [et]; exact if_pos (List.mem_append.mpr (.inr (List.mem_singleton.mpr rfl)))) fun y ny => by
          show (if y ∈ L.take (i + 1) then some false else σ.ov y) = if y ∈ L.take i then some false else σ.ov y
          have : (y ∈ L.take (i + 1)) ↔ y ∈ L.take i := by rw [et]; exact ⟨fun z => (List.mem_append.mp z).elim id fun q => absurd (List.mem_singleton.mp q) ny, fun z => List.mem_append.mpr (.inl z)⟩
          by_cases q : y ∈ L.take i
          · rw [if_pos q, if_pos (this.mpr q)]
          · rw [if_neg q, if_neg fun z => q (this.mp z)]
        refine ⟨_, rfl, _, rfl, B, _, rfl, DPut.k (k := Sum.inl t) hB' (small1000 (by have := len_over nd' hO'; omega)), ⟨_, _, rfl, upd_same, fun b o nb z => by rw [upd_ne nb]; exact b2 b o nb z, pu.1, pu.2⟩⟩
      · rintro τ H' ⟨v4, ov', rfl, hB', b2, nd', hO'⟩
        rw [List.length_map, List.take_length] at hO'
        exact ⟨v4, ov', rfl, hB', b2, nd', hO'⟩
    rintro τ H3 ⟨v4, ov', rfl, hB3, b3, ond', hO3⟩
    have s3 : Same H1 H3 := fun b o z => b3 b o (ne_of_none z nB) (s2 b o z)
    have hsv3 := s3 _ _ hsv
    have hp3 := s3 _ _ hp
    have hf3 := s3 _ _ hf
    have hbv3 := s3 _ _ hbv
    have Bds : B ≠ ds := fun z => by rw [z, hsv] at nB; cases nB
    have Bdb : B ≠ db := fun z => by rw [z, hbv] at nB; cases nB
    have pds : p ≠ ds := fun z => by rw [z, hsv] at hp; cases hp
    have fds : f ≠ ds := fun z => by rw [z, hsv] at hf; cases hf
    refine ⟨fun τ H' => ∃ (D : Addr) (nkv : List (Key × V)), τ = [some (.ref p), some (.int s), some (.ref f), some (.ref B), v4, none, none, some (.ref D)] ∧ H' D = some (.dK nkv) ∧ Same H3 H' ∧ H3 D = none ∧ (nkv.map (·.1)).Nodup ∧ ∀ k, PStore T.c_Item U N H' (fallS σ L) k (valV nkv k), ?_, ?_⟩
    · refine ⟨ds, .dK sv, hsv3, trivial, fun od => ?_⟩
      have hpL : (upd H3 ds (.frz od (.dK sv))) p = _ := (upd_ne pds).trans hp3
      refine ⟨_, rfl, p, T.c_State, dx, _, _, rfl, hpL, T.cl_State, T.na_State_store, rfl, ds, od, sv, rfl, upd_same, fun D nD => ?_⟩
      have l0 : LockS ds od (.dK sv) H3 (upd H3 ds (.frz od (.dK sv))) := LockS.start
      have nD3 : H3 D = none := l0.free nD hsv3
      have Dds : D ≠ ds := fun z => by rw [z, hsv3] at nD3; cases nD3
      have t3 : ∀ {H'}, LockS ds od (.dK sv) H3 H' → SameT H1 H' := fun {H'} l b o st z => l.but b o (fun q => by rw [q, hsv] at z; cases z; exact st) (s3 b o z)
      refine dc_it walk_items (fun i H' => ∃ nkv : List (Key × V), H' D = some (.dK nkv) ∧ LockS ds od (.dK sv) H3 H' ∧ Made sv nkv i (RSt T.c_Item U N H' fun n => relI L (σ.it n)))
        ⟨[], upd_same, l0.new nD, Made.nil⟩ (fun i H' _ ⟨_, _, l, _⟩ => l.at_) ?_ ?_
      · rintro i x H4 H5 hi ⟨nkv, hD, l4, md⟩ ⟨T', x1, x2, rfl, nT, rfl, e1, e2⟩
        have e1 : sv[i]?.map (fun kv => kV kv.1) = some x1 := e1
        have e2 : sv[i]?.map Prod.snd = some x2 := e2
        cases hq : sv[i]? with
        | none => rw [hq] at e1; cases e1
        | some kv =>
        obtain ⟨kk', v⟩ := kv
        rw [hq] at e1 e2
        cases e1
        cases e2
        have hb := hSt kk'
        rw [val_at snd hq] at hb
        cases kk' with
        | inl _ => cases hb
        | inr n =>
        obtain ⟨q, rfl, nN, hI, wf⟩ := hb
        have l5 := l4.new (o := .tup [kV (Sum.inr n), .ref q]) nT
        have hD5 := kp (o' := .tup [kV (Sum.inr n), .ref q]) nT hD
        have t45 : SameT H4 (upd H4 T' (.tup [kV (Sum.inr n), .ref q])) := SameT.new nT
        have hT5 : (upd H4 T' (.tup [kV (Sum.inr n), .ref q])) T' = some (.tup [kV (Sum.inr n), .ref q]) := upd_same
        generalize upd H4 T' (.tup [kV (Sum.inr n), .ref q]) = H5 at l5 hD5 hT5 t45
        refine ⟨T', _, rfl, SqT.of hT5, rfl, _, _, rfl, _, _, rfl, rfl, rfl, ?_⟩
        refine ⟨_, rfl, _, rfl, _, rfl, q, f, σ.it n, L, rfl, hI.sameT (t3 l5), l5.but _ _ fds hf3, fun H6 q' sm hI6 => ?_⟩
        have hD6 := sm _ _ hD5
        refine ⟨_, Sum.inr n, rfl, hD6, small1000 (by have := md.len; have := len_store snd hSt; omega), putK nkv (Sum.inr n) (.ref q'), upd_same, (l5.same sm).put nD3 Dds, ?_⟩
        have t6 : SameT H6 (upd H6 D (.dK (putK nkv (Sum.inr n) (.ref q')))) := SameT.chg hD6 (fun z => z)
        exact ((md.mono (RSt.sameT ((t45.trans (SameT.of sm))))).step snd hq ⟨n, q', rfl, rfl, nN, hI6, wf.rel⟩).mono (RSt.sameT t6)
      · rintro H4 ⟨nkv, hD, l4, md⟩
        refine ⟨l4.at_, ?_⟩
        have tu : SameT H4 (upd H4 ds (.dK sv)) := SameT.chg l4.at_ (fun z => z)
        have sm := store_map (g := relI L) (σ' := fallS σ L) relI0 snd hSt (md.mono (RSt.sameT tu)) (fun _ => rfl)
        exact ⟨D, nkv, rfl, by rw [upd_ne Dds]; exact hD, l4.unlock hsv3, nD3, sm.1, sm.2⟩
    rintro τ H4 ⟨D, nkv, rfl, hD4, s4, nD, nnd, hN4⟩
    have two : 2 ≤ sizeLine := by decide
    refine ⟨_, rfl, _, rfl, _, rfl, p, T.c_State, dx, _, _, rfl, s4 _ _ hp3, T.cl_State, T.na_State_bonds, rfl, fun x dx' nx ndx ne => mk_state nx ndx fun H5 s5 hx => ⟨rfl, _, rfl, two, fun t nt => ?_⟩⟩
    have s6 := same_new (o := .tup [.ref x, .ref f]) s5 nt
    refine kk _ t (((s1.trans s3).trans s4).trans s6) ⟨x, f, upd_same, ⟨dx', D, B, db, kp nt hx, ?_, ?_, Bdb, ⟨nkv, s6 _ _ hD4, nnd, store_congr hN4 (SameT.of s6) fun _ => rfl⟩, ⟨ov', s6 _ _ (s4 _ _ hB3), ond', hO3⟩, ⟨bv, s6 _ _ (s4 _ _ hbv3), bnd, bond_congr hB ((s3.trans s4).trans s6) fun _ => rfl⟩⟩, s6 _ _ (s4 _ _ hf3)⟩ ⟨hLU, hF⟩
    · exact fun z => by rw [z, hB3] at nD; cases nD
    · exact fun z => by rw [z, hbv3] at nD; cases nD
end
end K16

namespace K16
open PySem L2 SI CM BK
section
variable {w : World} {K : PySem.W.Frag} {mg : Str → Option Value} {base : Heap} (T : Txt w K mg)
/-- the answer may stand at the entry -/
def isAns (e : Str) (v : V) : Prop := ∃ a, v = .str a ∧ a ∈ chs e
def spChk (B C : Addr) : Sp := fun vs H Q E => ∃ v u, vs = [v, u] ∧ flatV v = true ∧ flatV u = true ∧
  (∀ e, v = .str e → e ∈ ENT → isAns e u → Q .non H) ∧ (¬ isEnt v → ∀ d, H d = none → E (.ref B) (some d) (upd H d (.xd [(("entry" : Str), v)]))) ∧
  (∀ e, v = .str e → e ∈ ENT → ¬ isAns e u → ∀ d, H d = none → E (.ref C) (some d) (upd H d (.xd [(("answer" : Str), u), (("entry" : Str), v)])))
theorem ok_check_answer : FnOk PP w K mg base (L2.CX PP w) 5 T.f_check_answer T.d_check_answer ["entry", "answer"] (spChk T.c_BadEntry T.c_BadAnswer) := by
  refine T.F_check_answer.okX sc_check_answer (fun vs H Q E h => ?_) (fun cdv A outer s H vs Q E hr h => ?_)
  · obtain ⟨v, u, rfl, _⟩ := h
    rfl
  · obtain ⟨v, u, rfl, fv, fu, kT, kF, kG⟩ := h
    refine ⟨_, pss_one (ps_if (pt_cmpR op_notIn_seq (pv 1) (pe_call (ok_answers_at T) (hr.mono (by decide)) (by rfl) T.g_answers_at T.F_answers_at.kp (b_answers_at T) .nil (passes_call (takes_of rfl rfl rfl rfl) fun _ _ _ _ h => h) (pa_cons (pv 0) pa_nil)) rfl)
 (pss_one (ps_raise rfl (takes_of rfl rfl rfl rfl) (pmk_oex T.oex_BadAnswer T.i_BadAnswer_init T.t_BadAnswer_init (ok_BadAnswer T) (hr.mono (by decide)) (b_BadAnswer_init T) .nil pass0 (by rfl) T.g_BadAnswer (pa_cons (pv 0) (pa_cons (pv 1) pa_nil)))))
 pss_nil), ?_⟩
    refine ⟨_, rfl, _, rfl, v, rfl, fv, fun e he hE p hp => ?_, kF⟩
    subst he
    refine ⟨p, (chs e).map V.str, rfl, .inr (hp H), fu, flat_strs _, _, rfl, ?_⟩
    by_cases hA : isAns e u
    · obtain ⟨a, rfl, ha⟩ := hA
      rw [inV_str, decide_eq_true ha]
      exact iteF (kT e rfl hE ⟨a, rfl, ha⟩)
    · rw [inV_not fun a h1 h2 => hA ⟨a, h1, h2⟩]
      exact iteT ⟨_, rfl, _, rfl, rz2 (kG e rfl hE hA)⟩
/-- a number of kept versions -/
def keepV : V → Bool
  | .int n => decide (1 ≤ n) && decide (n ≤ 20)
  | _ => false
def spKeep : Sp := fun vs H Q _ => ∃ v, vs = [v] ∧ flatV v = true ∧ Q (.bl (keepV v)) H
theorem ok_is_keep : FnOk PP w K mg base CX0 1 T.f_is_keep T.d_is_keep ["keep"] spKeep := by
  refine T.F_is_keep.ok sc_is_keep (fun vs H Q E h => ?_) (fun cdv A outer s H vs Q E hr h => ?_)
  · obtain ⟨v, rfl, _⟩ := h
    rfl
  · obtain ⟨v, rfl, fv, k⟩ := h
    obtain ⟨t0, hG⟩ := T.g_MOST_KEPT
    refine ⟨_, pss_cons (ps_if (PW.pt (pw_or (pt_val (pe_callB call_isi (by rfl) T.n_isinstance (by decide +kernel) (pa_cons (pv 0) (pa_cons (pe_bltn (v := .ty "bool") (by rfl) T.n_bool (by decide +kernel) rfl) pa_nil)))) (pw_or1 (pt_not (pt_val (pe_callB call_isi (by rfl) T.n_isinstance (by decide +kernel) (pa_cons (pv 0) (pa_cons (pe_bltn (v := .ty "int") (by rfl) T.n_int (by decide +kernel) rfl) pa_nil))))))))
 (pss_one (ps_ret pe_bl))
 pss_nil)
 (pss_one (ps_ret (pe_chain op_le op_le pe_int (pv 0) (pe_glob (v := .int 20) (by rfl) hG ⟨_, rfl⟩)))), ?_⟩
    cases v with
    | int n =>
      refine ⟨_, rfl, _, _, _, _, false, rfl, ClsV.ty _, .base (.int _), kit_ty (by decide +kernel), _, rfl, ?_⟩
      refine iteF ⟨_, rfl, _, _, _, _, true, rfl, ClsV.ty _, .base (.int _), kit_ty (by decide +kernel), _, rfl, ?_⟩
      refine iteF ?_
      refine ⟨_, rfl, _, _, rfl, rfl, _, rfl, ?_⟩
      have kk : keepV (.int n) = (decide (1 ≤ n) && decide (n ≤ 20)) := rfl
      rw [kk] at k
      by_cases h : (1 : Int) ≤ n
      · rw [decide_eq_true h] at k ⊢
        exact iteT ⟨_, _, rfl, rfl, k⟩
      · rw [decide_eq_false h] at k ⊢
        exact iteF k
    | bl b =>
      refine ⟨_, rfl, _, _, _, _, true, rfl, ClsV.ty _, .base (.bl _), kit_ty (by decide +kernel), _, rfl, ?_⟩
      exact iteT k
    | str z =>
      refine ⟨_, rfl, _, _, _, _, false, rfl, ClsV.ty _, .base (.str _), kit_ty (by decide +kernel), _, rfl, ?_⟩
      refine iteF ⟨_, rfl, _, _, _, _, false, rfl, ClsV.ty _, .base (.str _), kit_ty (by decide +kernel), _, rfl, ?_⟩
      exact iteT k
    | non =>
      refine ⟨_, rfl, _, _, _, _, false, rfl, ClsV.ty _, .base .non, kit_ty (by decide +kernel), _, rfl, ?_⟩
      refine iteF ⟨_, rfl, _, _, _, _, false, rfl, ClsV.ty _, .base .non, kit_ty (by decide +kernel), _, rfl, ?_⟩
      exact iteT k
    | _ => cases fv
end
end K16

namespace K16
open PySem L2 SI CM BK OWN
section
variable {w : World} {K : PySem.W.Frag} {mg : Str → Option Value} {base : Heap} (T : Txt w K mg)
theorem ok_BadSetting : FnOk PP w K mg base CX0 1 T.f_BadSetting_init T.d_BadSetting_init ["self", "given"] (spE1 T.c_BadSetting "given") := by
  refine ok_sup (N := ["self", "given", "__class__"]) T.S_BadSetting_init sc_BadSetting_init rfl (show (defScope s_BadSetting_init).names.lookup ("super" : Str) = some .globalImplicit by decide +kernel) rfl rfl (fun vs H Q E h => ?_) (fun A outer s H vs Q E hr h => ?_)
  · obtain ⟨a, v, rfl, _⟩ := h
    rfl
  · obtain ⟨a, v, rfl, ha, k⟩ := h
    refine ⟨a, _, _, _, pa_cons pe_str pa_nil, pss_one (ps_ost (pv 0) (pv 1)), rfl, fun M B u Q' E' s' z => PySem.Calls.evalArgs_plain z, rfl, rfl, rfl, ha, by show 1 ≤ 1000; decide, ha, ?_⟩
    exact ⟨_, rfl, _, rfl, _, _, rfl, T.oex_BadSetting, T.na_BadSetting_given, .inl ⟨ha, fun dx n ne => k dx n ne⟩⟩
abbrev NAE : List Str := ["now", "after"]
/-- a way to end -/
def isEnds (v : V) : Prop := v = .str "now" ∨ v = .str "after"
/-- nothing given, or a dict of these pairs -/
def Giv (H : Hp) (g : V) (gv : List (Str × V)) : Prop := (g = .non ∧ gv = []) ∨ ∃ a, g = .ref a ∧ H a = some (.dK (prs gv))
structure Bad (H : Hp) (p : Addr) (g : V) (gv : List (Str × V)) (H' : Hp) : Prop where
  but : ∀ b o, b ≠ p → g ≠ .ref b → H b = some o → H' b = some o
  giv : ∀ a, g = .ref a → ∃ o, H' a = some (.frz o (.dK (prs gv)))
structure InitP (C S B A : Addr) (p dx : Addr) (g : V) (gv : List (Str × V)) (en ke : V) (H : Hp) (Q : VK) (E : XK) : Prop where
  ok : ∀ e k, en = .str e → isEnds en → ke = .int k → keepV ke = true → (∀ q ∈ gv, okPair q = true) → ∀ H' d, But p H H' → H d = none → Bk C H' p dx d (fill gv fun _ => "abort") e k → Q .non H'
  bE : ¬ isEnds en → ∀ H' x, Same H H' → H x = none → H' x = some (.xd [(("given" : Str), en)]) → E (.ref S) (some x) H'
  bK : isEnds en → keepV ke = false → ∀ H' x, Same H H' → H x = none → H' x = some (.xd [(("given" : Str), ke)]) → E (.ref S) (some x) H'
  bB : isEnds en → keepV ke = true → ∀ pre q post, gv = pre ++ q :: post → (∀ z ∈ pre, okPair z = true) → q.1 ∉ ENT → ∀ H' x, Bad H p g gv H' → H x = none → H' x = some (.xd [(("entry" : Str), .str q.1)]) → E (.ref B) (some x) H'
  bA : isEnds en → keepV ke = true → ∀ pre q post, gv = pre ++ q :: post → (∀ z ∈ pre, okPair z = true) → q.1 ∈ ENT → isAnsB q.1 q.2 = false → ∀ H' x, Bad H p g gv H' → H x = none → H' x = some (.xd [(("answer" : Str), q.2), (("entry" : Str), .str q.1)]) → E (.ref A) (some x) H'
def spInit (C S B A : Addr) : Sp := fun vs H Q E => ∃ p dx g gv en ke, vs = [.ref p, g, en, ke] ∧ H p = some (.ins C dx []) ∧ flatV en = true ∧ flatV ke = true ∧ Giv H g gv ∧ (∀ q ∈ gv, flatV q.2 = true) ∧ InitP C S B A p dx g gv en ke H Q E
theorem ok_Book_init : FnOk PP w K mg base (L2.CX PP w) 6 T.f_Book_init T.d_Book_init ["self", "answers", "ends", "keep"] (spInit T.c_Book T.c_BadSetting T.c_BadEntry T.c_BadAnswer) := by
  refine T.F_Book_init.ok (CX := L2.CX PP w) sc_Book_init (fun vs H Q E h => ?_) (fun cdv A outer s H vs Q E hr h => ?_)
  · obtain ⟨p, dx, g, gv, en, ke, rfl, _⟩ := h
    rfl
  · obtain ⟨p, dx, g, gv, en, ke, rfl, hp, fe, fk, hg, hf, P⟩ := h
    refine ⟨_, pss_cons (ps_if (pt_cmpR op_notIn_seq (pv 2) (pe_tup (pa_cons pe_str (pa_cons pe_str pa_nil))) rfl)
 (pss_one (ps_raise rfl (takes_of rfl rfl rfl rfl) (pmk_oex T.oex_BadSetting T.i_BadSetting_init T.t_BadSetting_init (ok_BadSetting T) (hr.mono (by decide)) (b_BadSetting_init T) .nil pass0 (by rfl) T.g_BadSetting (pa_cons (pv 2) pa_nil))))
 pss_nil)
 (pss_cons (ps_if (pt_not (pt_val (pe_call (ok_is_keep T) (hr.mono (by decide)) (by rfl) T.g_is_keep T.F_is_keep.kp (b_is_keep T) .nil pass0 (pa_cons (pv 3) pa_nil))))
 (pss_one (ps_raise rfl (takes_of rfl rfl rfl rfl) (pmk_oex T.oex_BadSetting T.i_BadSetting_init T.t_BadSetting_init (ok_BadSetting T) (hr.mono (by decide)) (b_BadSetting_init T) .nil pass0 (by rfl) T.g_BadSetting (pa_cons (pv 3) pa_nil))))
 pss_nil)
 (pss_cons (ps_fld (pv 0) (pv 2) rfl)
 (C8.pss_cut (ps_fld (pv 0) (pv 3) rfl)
 (C8.pss_cut (ps_fld (pv 0) (pe_dc (own := [("entry", 4)]) (g := gName 4) (tt := tYes) rfl sc_Book_init.nd (pi_tup (pe_glob (v := .ref T.o_ENTRIES) (by rfl) T.g_ENTRIES rfl)) (blkOk_by (N := ["self", "answers", "ends", "keep", "entry", "given", "answer"]) (sc := defScope s_Book_init) (by decide +kernel)) (fun _ _ _ _ _ => pg_name (i := 4) sc_Book_init.nd rfl (Or.inl rfl)) (fun _ _ _ _ _ => pts_nil) (fun _ _ _ _ _ => pv 4) (fun _ _ _ _ _ => pe_str)) rfl)
 (C8.pss_cut (ps_set (i := 5) sc_Book_init.nd rfl (.inl rfl) (pe_ifExp (pt_cmpR op_isN (pv 1) pe_non (nomark _)) pe_dnewK (pv 1)))
 (pss_one (ps_lock (ps_for (passes_of rfl) rfl (pi_items (pv 5)) (pg_tup rfl (pgs_cons (pg_name (i := 4) sc_Book_init.nd rfl (.inl rfl)) (pgs_cons (pg_name (i := 6) sc_Book_init.nd rfl (.inl rfl)) pgs_nil)))
 (pss_cons (ps_expr (pe_call (ok_check_answer T) (hr.mono (by decide)) (by rfl) T.g_check_answer T.F_check_answer.kp (b_check_answer T) .nil (passes_call (takes_of rfl rfl rfl rfl) fun _ _ _ _ h => h) (pa_cons (pv 4) (pa_cons (pv 6) pa_nil))))
 (pss_one (ps_dput (hu_of hr) (pe_fld (pv 0) rfl) (pv 4) (pv 6) rfl))))))))))), ?_⟩
    have two : 2 ≤ sizeLine := by decide
    refine ⟨_, rfl, two, fun t nt => ⟨t, NAE.map V.str, rfl, .inr (SqT.of upd_same), fe, flat_strs _, _, rfl, ?_⟩⟩
    have s0 : Same H (upd H t (.tup (NAE.map V.str))) := same_new (Same.refl H) nt
    have hE : inV en (NAE.map V.str) = true ↔ isEnds en := by
      constructor
      · intro z
        cases en with
        | str e =>
          rw [inV_str] at z
          have z := of_decide_eq_true z
          simp only [List.mem_cons, List.not_mem_nil, or_false] at z
          rcases z with rfl | rfl
          · exact .inl rfl
          · exact .inr rfl
        | _ => exact absurd z (by rw [inV_not (by intro e he; cases he)]; exact Bool.false_ne_true)
      · rintro (rfl | rfl) <;> decide +kernel
    by_cases hI : isEnds en
    case neg =>
      have z : inV en (NAE.map V.str) = false := by
        cases q : inV en (NAE.map V.str) with
        | false => rfl
        | true => exact absurd (hE.mp q) hI
      rw [z]
      exact iteT ⟨_, rfl, rz1 fun d hd => P.bE hI _ d (same_new s0 hd) (s0.free hd) upd_same⟩
    rw [hE.mpr hI]
    refine iteF ⟨_, rfl, ke, rfl, fk, _, rfl, ?_⟩
    cases hk : keepV ke with
    | false => exact iteT ⟨_, rfl, rz1 fun d hd => P.bK hI hk _ d (same_new s0 hd) (s0.free hd) upd_same⟩
    | true =>
    refine iteF ?_
    obtain ⟨e, rfl⟩ : ∃ e, en = .str e := by rcases hI with rfl | rfl <;> exact ⟨_, rfl⟩
    obtain ⟨k, rfl⟩ : ∃ k, ke = .int k := by
      cases ke with
      | int k => exact ⟨k, rfl⟩
      | _ => cases hk
    have hp0 := s0 _ _ hp
    refine ⟨_, rfl, _, rfl, p, T.c_Book, dx, _, rfl, hp0, T.cl_Book, T.na_Book__ends, by show 0 < 1000; decide, ?_⟩
    refine ⟨fun σ H1 => σ = [some (.ref p), some g, some (.str e), some (.int k), none, none, none] ∧ But p H H1 ∧ H1 p = some (.ins T.c_Book dx [(("_ends" : Str), .str e), (("_keep" : Str), .int k)]), ?_, ?_⟩
    · exact ⟨_, rfl, _, rfl, p, T.c_Book, dx, _, rfl, upd_same, T.cl_Book, T.na_Book__keep, by show 1 < 1000; decide, rfl, fun b o' hb z => by rw [upd_ne hb, upd_ne hb]; exact s0 b o' z, upd_same⟩
    rintro σ H1 ⟨rfl, b1, hp1⟩
    have f1 : ∀ {q : Addr}, H1 q = none → H q = none := fun {q} z => by
      cases hq : H q with
      | none => rfl
      | some o =>
        by_cases hb : q = p
        · rw [hb, hp1] at z; cases z
        · rw [b1 q o hb hq] at z; cases z
    refine ⟨fun σ H3 => ∃ d, σ = [some (.ref p), some g, some (.str e), some (.int k), none, none, none] ∧ But p H H3 ∧ H d = none ∧ Bk T.c_Book H3 p dx d (fun _ => "abort") e k, ?_, ?_⟩
    · refine ⟨_, rfl, ⟨_, T.q_ENTRIES _⟩, fun D nD => dc_tup (xs := ENT.map V.str) (fun i H' => H' D = some (.dK (tabS (ENT.take i) fun _ => "abort")) ∧ Same H1 H')
        ⟨upd_same, same_new (Same.refl H1) nD⟩ (fun i H' _ _ => T.q_ENTRIES H') ?_ ?_⟩
      · rintro i x H' hx ⟨hD, sm⟩
        rw [List.getElem?_map] at hx
        cases hq : ENT[i]? with
        | none => rw [hq] at hx; cases hx
        | some y =>
        rw [hq] at hx
        cases hx
        have hi : i < ENT.length := (List.getElem?_eq_some_iff.mp hq).1
        have hn : y ∉ ENT.take i := fun z => by
          obtain ⟨j, hj, ej⟩ := List.mem_iff_getElem.mp z
          rw [List.length_take] at hj
          rw [List.getElem_take] at ej
          have e2 := (List.pairwise_iff_getElem.mp ent_nodup) j i (by omega) hi (by omega)
          exact e2 (ej.trans (List.getElem?_eq_some_iff.mp hq).2.symm)
        refine ⟨rfl, _, rfl, _, Sum.inr y, rfl, hD, by rw [tab_len, List.length_take]; exact small1000 (by rw [ent_len] at hi ⊢; omega), ?_, ?_⟩
        · rw [upd_same, put_new (g := V.str) (a := ("abort" : Str)) hn, List.take_add_one, hq]
          have e3 : put (fun _ => ("abort" : Str)) y "abort" = (fun _ => ("abort" : Str)) := by funext z; unfold put; split <;> rfl
          rw [e3]
          rfl
        · intro b o z
          rw [upd_ne (ne_of_none z nD)]
          exact sm b o z
      rintro H2 ⟨hD, s2⟩
      rw [List.length_map, show ENT.take ENT.length = ENT from rfl] at hD
      have nDp : D ≠ p := fun z => by rw [z, hp1] at nD; cases nD
      exact ⟨_, rfl, p, T.c_Book, dx, _, rfl, s2 _ _ hp1, T.cl_Book, T.na_Book__answers, by show 2 < 1000; decide, D, rfl, fun b o' hb z => by rw [upd_ne hb]; exact s2 _ _ (b1 b o' hb z), f1 nD, upd_same, by rw [upd_ne nDp]; exact hD⟩
    rintro σ H3 ⟨d, rfl, b3, nd, B3⟩
    have hdp : d ≠ p := fun z => by rw [z, hp] at nd; cases nd
    refine ⟨fun σ H4 => ∃ ga, σ = [some (.ref p), some g, some (.str e), some (.int k), none, some (.ref ga), none] ∧ But p H H4 ∧ Bk T.c_Book H4 p dx d (fun _ => "abort") e k ∧ H4 ga = some (.dK (prs gv)) ∧ ga ≠ d ∧ ga ≠ p ∧ (g = .ref ga ∨ (g = .non ∧ H ga = none)), ?_, ?_⟩
    · refine ⟨_, rfl, rfl, _, rfl, ?_⟩
      rcases hg with ⟨rfl, rfl⟩ | ⟨a, rfl, ha⟩
      · refine iteT fun q nq => ⟨q, rfl, b3.same (same_new (Same.refl H3) nq), B3.same (same_new (Same.refl H3) nq), upd_same, fun z => ?_, fun z => ?_, .inr ⟨rfl, ?_⟩⟩
        · rw [z, B3.tbl] at nq; cases nq
        · rw [z, B3.ins] at nq; cases nq
        · cases hx : H q with
          | none => rfl
          | some o =>
            by_cases hb : q = p
            · rw [hb, B3.ins] at nq; cases nq
            · rw [b3 q o hb hx] at nq; cases nq
      · have hap : a ≠ p := fun z => by rw [z, hp] at ha; cases ha
        exact iteF ⟨_, rfl, a, rfl, b3, B3, b3 _ _ hap ha, fun z => (by rw [z, nd] at ha; cases ha), hap, .inl rfl⟩
    rintro σ H4 ⟨ga, rfl, b4, B4, hga, gad, gap, hgv⟩
    refine ⟨ga, .dK (prs gv), hga, trivial, fun od => ?_⟩
    have AB : (fun _ : Str => ("abort" : Str)) = fill (gv.take 0) (fun _ => "abort") := rfl
    refine ⟨_, rfl, ga, od, prs gv, rfl, upd_same, for_it walk_items (fun i σ H' => ∃ v4 v6, σ = [some (.ref p), some g, some (.str e), some (.int k), v4, some (.ref ga), v6] ∧ H' ga = some (.frz od (.dK (prs gv))) ∧
        Bk T.c_Book H' p dx d (fill (gv.take i) fun _ => "abort") e k ∧ (∀ q ∈ gv.take i, okPair q = true) ∧ (∀ b o, b ≠ p → b ≠ ga → H b = some o → H' b = some o))
      ⟨none, none, rfl, upd_same, ⟨by rw [upd_ne gap.symm]; exact B4.ins, by rw [upd_ne gad.symm]; exact B4.tbl⟩, (fun q hq => by cases hq), fun b o h1 h2 z => by rw [upd_ne h2]; exact b4 b o h1 z⟩ (fun i σ H' _ ⟨_, _, _, z, _⟩ => z) ?_ ?_⟩
    · rintro i x σ H5 H6 hi ⟨v4, v6, rfl, hga5, B5, ok5, b5⟩ ⟨T', x1, x2, rfl, nT, rfl, e1, e2⟩
      have e1 : (prs gv)[i]?.map (fun kv => kV kv.1) = some x1 := e1
      have e2 : (prs gv)[i]?.map Prod.snd = some x2 := e2
      cases hq : (prs gv)[i]? with
      | none => rw [hq] at e1; cases e1
      | some kv =>
      obtain ⟨kk, u⟩ := kv
      rw [hq] at e1 e2
      cases e1
      cases e2
      obtain ⟨en, hgi, rfl⟩ := prs_at hq
      have hfu : flatV u = true := hf _ (List.mem_of_getElem? hgi)
      have hmem : (en, u) ∈ gv := List.mem_of_getElem? hgi
      have hsplit : gv = gv.take i ++ (en, u) :: gv.drop (i + 1) := by
        have hl := (List.getElem?_eq_some_iff.mp hgi).1
        rw [← (List.getElem?_eq_some_iff.mp hgi).2, List.getElem_cons_drop, List.take_append_drop]
      have htake : gv.take (i + 1) = gv.take i ++ [(en, u)] := by rw [List.take_add_one, hgi] <;> rfl
      have s6 : Same H5 (upd H5 T' (.tup [kV (Sum.inr en), u])) := same_new (Same.refl H5) nT
      have badH : ∀ x o, upd H5 T' (.tup [kV (Sum.inr en), u]) x = none → Bad H p g gv (upd (upd H5 T' (.tup [kV (Sum.inr en), u])) x o) := fun x o nx => by
        have nb := same_new (o := o) s6 nx
        refine ⟨fun b o h1 h2 z => ?_, fun a ea => ⟨od, ?_⟩⟩
        · by_cases hb : b = ga
          · subst hb
            rcases hgv with hgv | ⟨hgv, _⟩
            · exact absurd hgv h2
            · rcases hg with ⟨_, rfl⟩ | ⟨a, ea, _⟩
              · cases hmem
              · rw [hgv] at ea; cases ea
          · exact nb b o (b5 b o h1 hb z)
        · rcases hgv with hgv | ⟨hgv, _⟩
          · rw [hgv] at ea
            cases ea
            exact nb _ _ hga5
          · rw [hgv] at ea; cases ea
      have freeH : ∀ x, upd H5 T' (.tup [kV (Sum.inr en), u]) x = none → H x = none := fun x nx => by
        cases hx : H x with
        | none => rfl
        | some o =>
          have n5 := s6.free nx
          by_cases h1 : x = p
          · rw [h1, B5.ins] at n5; cases n5
          · by_cases h2 : x = ga
            · rw [h2, hga5] at n5; cases n5
            · rw [b5 x o h1 h2 hx] at n5; cases n5
      refine ⟨T', _, rfl, SqT.of upd_same, rfl, _, _, rfl, _, _, rfl, rfl, ?_⟩
      have stay : ∀ x o, upd H5 T' (.tup [kV (Sum.inr en), u]) x = none → Same (upd H5 T' (.tup [kV (Sum.inr en), u])) (upd (upd H5 T' (.tup [kV (Sum.inr en), u])) x o) := fun x o nx => same_new (Same.refl _) nx
      refine ⟨_, rfl, _, rfl, .str en, u, rfl, rfl, hfu, fun e' he' hE' hA => ?_, fun hne x nx => ?_, fun e' he' hE' hA x nx => ?_⟩
      · cases he'
        obtain ⟨a, rfl, ha⟩ := hA
        have tdp : d ≠ T' := fun z => by rw [← z, B5.tbl] at nT; cases nT
        refine ⟨_, rfl, _, rfl, p, T.c_Book, dx, _, _, rfl, s6 _ _ B5.ins, T.cl_Book, T.na_Book__answers, rfl, _, rfl, d, _, rfl, DPut.k (k := Sum.inr en) (s6 _ _ B5.tbl) (by rw [tab_len]; exact small1000 (by decide)), ?_⟩
        refine ⟨_, _, rfl, by rw [upd_ne gad]; exact s6 _ _ hga5, ⟨by rw [upd_ne B5.ne]; exact s6 _ _ B5.ins, ?_⟩, fun q hq => ?_, fun b o h1 h2 z => ?_⟩
        · rw [upd_same, put_in (g := V.str) hE', htake, fill_snoc]
        · rw [htake] at hq
          rcases List.mem_append.mp hq with hq | hq
          · exact ok5 q hq
          · rw [List.mem_singleton.mp hq]
            show (decide (en ∈ ENT) && decide (a ∈ chs en)) = true
            rw [decide_eq_true hE', decide_eq_true ha]
            rfl
        · have hb : b ≠ d := fun q => by rw [q, nd] at z; cases z
          rw [upd_ne hb]
          exact s6 _ _ (b5 b o h1 h2 z)
      · refine P.bB hI hk (gv.take i) (en, u) (gv.drop (i + 1)) hsplit ok5 (fun hE' => hne ⟨en, rfl, hE'⟩) _ x (badH x _ nx) (freeH x nx) upd_same
      · cases he'
        have hb : isAnsB en u = false := by
          cases q : isAnsB en u with
          | false => rfl
          | true =>
            cases u with
            | str a => exact absurd ⟨a, rfl, of_decide_eq_true q⟩ hA
            | _ => cases q
        exact P.bA hI hk (gv.take i) (en, u) (gv.drop (i + 1)) hsplit ok5 hE' hb _ x (badH x _ nx) (freeH x nx) upd_same
    · rintro σ H5 ⟨v4, v6, rfl, hga5, B5, ok5, b5⟩
      have et : gv.take (prs gv).length = gv := by rw [prs_len, List.take_length]
      rw [et] at B5 ok5
      refine ⟨hga5, P.ok e k rfl hI rfl hk ok5 _ d (fun b o h1 z => ?_) nd ⟨by rw [upd_ne gap.symm]; exact B5.ins, by rw [upd_ne gad.symm]; exact B5.tbl⟩⟩
      by_cases hb : b = ga
      · subst hb
        rw [upd_same]
        rcases hgv with hgv | ⟨hgv, nga⟩
        · rcases hg with ⟨z0, _⟩ | ⟨a, ea, ha⟩
          · rw [hgv] at z0; cases z0
          · rw [hgv] at ea
            cases ea
            rw [← ha]
            exact z
        · exfalso
          rw [nga] at z
          cases z
      · rw [upd_ne hb]
        exact b5 b o h1 hb z
end
end K16

namespace K16
open PySem L2 SI CM BK OWN
section
variable {w : World} {K : PySem.W.Frag} {mg : Str → Option Value} {base : Heap} (T : Txt w K mg)
/-- the properties -/
def spProp (C : Addr) (r : Str → Int → V) : Sp := fun vs H Q _ => ∃ b dx d f e k, vs = [.ref b] ∧ Bk C H b dx d f e k ∧ Q (r e k) H
theorem ok_ends : FnOk PP w K mg base CX0 1 T.f_Book_ends T.d_Book_ends ["self"] (spProp T.c_Book fun e _ => .str e) := by
  refine T.F_Book_ends.ok sc_Book_ends (fun vs H Q E h => ?_) (fun cdv A outer s H vs Q E hr h => ?_)
  · obtain ⟨b, dx, d, f, e, k, rfl, _⟩ := h
    rfl
  · obtain ⟨b, dx, d, f, e, k, rfl, B, q⟩ := h
    refine ⟨_, pss_one (ps_ret (pe_fld (pv 0) rfl)), ?_⟩
    exact ⟨_, rfl, b, T.c_Book, dx, _, _, rfl, B.ins, T.cl_Book, T.na_Book__ends, rfl, q⟩
theorem ok_keep : FnOk PP w K mg base CX0 1 T.f_Book_keep T.d_Book_keep ["self"] (spProp T.c_Book fun _ k => .int k) := by
  refine T.F_Book_keep.ok sc_Book_keep (fun vs H Q E h => ?_) (fun cdv A outer s H vs Q E hr h => ?_)
  · obtain ⟨b, dx, d, f, e, k, rfl, _⟩ := h
    rfl
  · obtain ⟨b, dx, d, f, e, k, rfl, B, q⟩ := h
    refine ⟨_, pss_one (ps_ret (pe_fld (pv 0) rfl)), ?_⟩
    exact ⟨_, rfl, b, T.c_Book, dx, _, _, rfl, B.ins, T.cl_Book, T.na_Book__keep, rfl, q⟩
end
end K16

namespace K16
open PySem L2 SI CM BK OWN MIR StX TX TL
section
variable {w : World} {K : PySem.W.Frag} {mg : Str → Option Value} {base : Heap} (T : Txt w K mg)
def spAborted (CS CI : Addr) : Sp := fun vs H Q _ => ∃ (p m : Addr) (s : Int) (met : List Str) (U : List Int) (N : List Str) (σ : MIR.S), vs = [.ref p, .int s, .ref m] ∧ StAt CS CI U N H p σ ∧ s ∈ U ∧ U.length ≤ 400 ∧ N.length ≤ 400 ∧ H m = some (.tup (met.map V.str)) ∧
  ∀ (H' : Hp) (q : Addr), Same H H' → PairAt CS CI U N H' q (fallS σ (fal σ s), ⟨"abort", met, .non, fal σ s⟩) → ((∀ t ∈ fal σ s, t ∈ U) ∧ IsF σ s (fal σ s)) → Q (.ref q) H'
theorem ok_aborted : FnOk PP w K mg base CX0 6 T.f_aborted T.d_aborted ["state", "stamp", "met"] (spAborted T.c_State T.c_Item) := by
  refine T.F_aborted.ok sc_aborted (fun vs H Q E h => ?_) (fun cdv A outer s H vs Q E hr h => ?_)
  · obtain ⟨p, m, s, met, U, N, σ, rfl, _⟩ := h
    rfl
  · obtain ⟨p, m, s, met, U, N, σ, rfl, st, hs, hU, hN, hm, kk⟩ := h
    refine ⟨_, pss_cons (ps_asg (pe_call (ok_without T) (hr.mono (by decide)) (by rfl) T.g_without T.F_without.kp (b_without T) .nil pass0 (pa_cons (pv 0) (pa_cons (pv 1) pa_nil))) (pg_tup rfl (pgs_cons (pg_name (i := 3) sc_aborted.nd rfl (.inl rfl)) (pgs_cons (pg_name (i := 4) sc_aborted.nd rfl (.inl rfl)) pgs_nil))))
 (pss_one (ps_ret (pe_tup (pa_cons (pv 3) (pa_cons (pe_tup (pa_cons pe_str (pa_cons (pv 2) (pa_cons pe_non (pa_cons (pv 4) pa_nil))))) pa_nil))))), ?_⟩
    have two : 2 ≤ sizeLine := by decide
    have four : 4 ≤ sizeLine := by decide
    refine ⟨_, rfl, _, rfl, p, s, U, N, σ, rfl, st, hs, hU, hN, fun H1 q s1 ⟨a, f, hq, hst, hf⟩ hLU => ?_⟩
    refine ⟨q, _, rfl, SqT.of hq, rfl, _, _, rfl, _, _, rfl, rfl, ?_⟩
    refine ⟨_, rfl, _, rfl, _, rfl, four, fun t nt => ⟨two, fun u nu => ?_⟩⟩
    have s2 := same_new (o := .tup [.str "abort", .ref m, .non, .ref f]) (Same.refl H1) nt
    have s3 := same_new (o := .tup [.ref a, .ref t]) s2 nu
    exact kk _ u (s1.trans s3) ⟨a, t, upd_same, hst.same s3, ⟨m, .non, f, kp nu upd_same, s3 _ _ (s1 _ _ hm), rfl, s3 _ _ hf⟩⟩ hLU
theorem filter_asc {l : List Int} {P : Int → Bool} {M : List Int} (nd : l.Nodup) (p : M.Perm (l.filter P)) (s : M.Pairwise (· ≤ ·)) : asc (l.filter P) = M := asc_eq (perm_asc p s (nd.sublist List.filter_sublist))
theorem bd_of {H : Hp} {U : List Int} {σ : MIR.S} {kvs : List (Key × V)} (hB : ∀ k, PBond U H σ k (valV kvs k)) (t : Int) : (σ.bd t).Nodup ∧ ∀ h ∈ σ.bd t, h ∈ U := by
  have z := hB (.inl t)
  cases e : valV kvs (Sum.inl t) with
  | none => rw [e] at z; rw [show σ.bd t = [] from z]; exact ⟨List.nodup_nil, fun h hh => by cases hh⟩
  | some v => rw [e] at z; obtain ⟨q, _, _, _, h1, h2⟩ := z; exact ⟨h1, h2⟩
noncomputable def comM (σ : MIR.S) (s : Int) (k : Nat) : MIR.S × Out := if waitsOf σ s ≠ [] then (σ, ⟨"wait", [], .tup (asc (waitsOf σ s)), []⟩) else (commS σ s k, ⟨"commit", [], .non, []⟩)
def spCommitted (CB CS CI : Addr) : Sp := fun vs H Q _ => ∃ (b dxb d : Addr) (g : Str → Str) (e : Str) (k : Nat) (p : Addr) (s : Int) (U : List Int) (N : List Str) (σ : MIR.S), vs = [.ref b, .ref p, .int s] ∧ Bk CB H b dxb d g e (k : Int) ∧ 1 ≤ k ∧ k ≤ 20 ∧ StAt CS CI U N H p σ ∧ s ∈ U ∧ U.length ≤ 400 ∧ N.length ≤ 400 ∧
  ∀ (H' : Hp) (q : Addr), Same H H' → PairAt CS CI U N H' q (comM σ s k) → Q (.ref q) H'
theorem ok_committed : FnOk PP w K mg base CX0 5 T.f_committed T.d_committed ["book", "state", "stamp"] (spCommitted T.c_Book T.c_State T.c_Item) := by
  refine T.F_committed.ok sc_committed (fun vs H Q E h => ?_) (fun cdv A outer s H vs Q E hr h => ?_)
  · obtain ⟨b, dxb, d, g, e, k, p, s, U, N, σ, rfl, _⟩ := h
    rfl
  · obtain ⟨b, dxb, d, g, e, k, p, s, U, N, σ, rfl, B, k1, k20, st, hs, hU, hN, kk⟩ := h
    refine ⟨_, C8.pss_cut (ps_set (i := 3) sc_committed.nd rfl (.inl rfl) (pe_dget2 (hu_of hr) (pe_fld (pv 1) rfl) (pv 2) (pe_tup pa_nil) (by constructor <;> rfl)))
 (pss_cons (ps_set (i := 5) sc_committed.nd rfl (.inl rfl) (pe_call (ok_ascending T) (hr.mono (by decide)) (by rfl) T.g_ascending T.F_ascending.kp (b_ascending T) .nil pass0 (pa_cons (pe_lc (own := [("holder", 4)]) (g := gName 4) (tt := tB (tDNotIn (tVar 4) (tFld K (tVar 1) "over"))) (by rfl) sc_committed.nd (pi_tup (pv 3)) (blkOk_by (N := ["book", "state", "stamp", "bound", "holder", "holders", "over", "name", "item", "store"]) (sc := defScope s_committed) (by decide +kernel)) (fun _ _ _ _ _ => pg_name (i := 4) sc_committed.nd rfl (Or.inl rfl)) (fun _ _ _ _ _ => pts_one (pt_cmp (pc_dnotin (hu_of hr) (pv 4) (pe_fld (pv 1) rfl)))) (fun _ _ _ _ _ => (pv 4))) pa_nil)))
 (pss_cons (ps_if (pt_truth (pv 5) (by intro _; rfl))
 (pss_one (ps_ret (pe_tup (pa_cons (pv 1) (pa_cons (pe_tup (pa_cons pe_str (pa_cons (pe_tup pa_nil) (pa_cons (pv 5) (pa_cons (pe_tup pa_nil) pa_nil))))) pa_nil)))))
 pss_nil)
 (pss_cons (ps_set (i := 6) sc_committed.nd rfl (.inl rfl) (pe_callTy call_dictD (by rfl) T.n_dict (by decide +kernel) (pa_cons (pe_fld (pv 1) rfl) pa_nil)))
 (pss_cons (ps_dput (hu_of hr) (pv 6) (pv 2) pe_str rfl)
 (C8.pss_cut (ps_lock (DCS.ps_setDc (i := 9) (own := [("name", 7), ("item", 8)]) (g := (gTup K 2 (gCons (gName 7) (gCons (gName 8) gNil)))) (tt := tYes) rfl sc_committed.nd rfl rfl (DCS.sw_dict rfl rfl rfl (by decide +kernel)) (pi_items (pe_fld (pv 1) rfl)) (blkOk_by (N := ["book", "state", "stamp", "bound", "holder", "holders", "over", "name", "item", "store"]) (sc := defScope s_committed) (by decide +kernel)) (fun _ _ _ _ _ => pg_tup rfl (pgs_cons (pg_name (i := 7) sc_committed.nd rfl (.inl rfl)) (pgs_cons (pg_name (i := 8) sc_committed.nd rfl (.inl rfl)) pgs_nil))) (fun _ _ _ _ _ => pts_nil) (fun _ _ _ _ _ => (pv 7)) (fun _ _ _ _ _ => (pe_call (ok_settled T) (hr.mono (by decide)) (by rfl) T.g_settled T.F_settled.kp (b_settled T) .nil pass0 (pa_cons (pv 8) (pa_cons (pv 2) (pa_cons (pe_prop (pv 0) T.cl_Book T.p_Book_keep (ok_keep T) (hr.mono (by decide)) (b_Book_keep T) .nil pass0 rfl) pa_nil)))))))
 (pss_one (ps_ret (pe_tup (pa_cons (pe_make T.mk_State (ok_State_init T) (hr.mono (by decide)) (by rfl) T.g_State (b_State_init T) .nil pass0 (pa_cons (pv 9) (pa_cons (pv 6) (pa_cons (pe_fld (pv 1) rfl) pa_nil)))) (pa_cons (pe_tup (pa_cons pe_str (pa_cons (pe_tup pa_nil) (pa_cons pe_non (pa_cons (pe_tup pa_nil) pa_nil))))) pa_nil)))))))))), ?_⟩
    obtain ⟨dx, ds, dv, db, hp, n1, n2, n3, D1, D2, D3⟩ := st.ex
    obtain ⟨sv, hsv, snd, hSt⟩ := D1.ex
    obtain ⟨ov, hov, ond, hO⟩ := D2.ex
    obtain ⟨bv, hbv, bnd, hB⟩ := D3.ex
    obtain ⟨bdnd, bdU⟩ := bd_of hB s
    have zero : 0 ≤ sizeLine := by decide
    have two : 2 ≤ sizeLine := by decide
    have four : 4 ≤ sizeLine := by decide
    refine ⟨fun τ H' => ∃ q, τ = [some (.ref b), some (.ref p), some (.int s), some (.ref q), none, none, none, none, none, none] ∧ H' q = some (.tup ((σ.bd s).map V.int)) ∧ Same H H', ?_, ?_⟩
    · refine ⟨_, rfl, p, T.c_State, dx, _, _, rfl, hp, T.cl_State, T.na_State_bonds, rfl, db, rfl, .inl ⟨bv, .inl hbv⟩, _, rfl, zero, fun t nt => ?_⟩
      have gg := DGet.k (k := Sum.inl s) (kp (o' := .tup []) nt hbv)
      have z := hB (.inl s)
      refine ⟨_, gg, ?_⟩
      cases e0 : valV bv (Sum.inl s) with
      | none =>
        rw [e0] at z
        exact ⟨t, rfl, by rw [show σ.bd s = [] from z]; exact upd_same, same_new (Same.refl H) nt⟩
      | some v =>
        rw [e0] at z
        obtain ⟨q, rfl, _, hq, _⟩ := z
        exact ⟨q, rfl, kp nt hq, same_new (Same.refl H) nt⟩
    rintro τ H1 ⟨q, rfl, hq, s1⟩
    have hp1 := s1 _ _ hp
    have hov1 := s1 _ _ hov
    refine ⟨_, rfl, q, rfl, ⟨_, SqT.of hq⟩, fun D nD => lc_tup (xs := (σ.bd s).map V.int) (fun i H' => H' D = some (.lst ((((σ.bd s).take i).filter fun t => (σ.ov t).isNone).map V.int)) ∧ Same H1 H')
      ⟨upd_same, same_new (Same.refl H1) nD⟩ (fun i H' _ h => SqT.of (h.2 _ _ hq)) ?_ ?_⟩
    · rintro i x H2 hx ⟨hD, s2⟩
      obtain ⟨t, ht, rfl⟩ := ints_at' hx
      have gg := DGet.k (k := Sum.inl t) (s2 _ _ hov1)
      have z := hO (.inl t)
      have et : (σ.bd s).take (i + 1) = (σ.bd s).take i ++ [t] := by rw [List.take_add_one, ht]; rfl
      refine ⟨rfl, _, rfl, _, rfl, p, T.c_State, dx, _, _, rfl, s2 _ _ hp1, T.cl_State, T.na_State_over, rfl, dv, _, rfl, gg, _, rfl, ?_⟩
      cases e0 : valV ov (Sum.inl t) with
      | none =>
        rw [e0] at z
        refine iteT ⟨_, rfl, _, hD, small1000 ?_, ?_, fun b o z => ?_⟩
        · rw [List.length_map]
          have h1 := List.length_filter_le (fun t => (σ.ov t).isNone) ((σ.bd s).take i)
          have h2 := List.length_take_le i (σ.bd s)
          have h3 := nd_le bdnd bdU
          have h4 : ((σ.bd s).take i).length ≤ (σ.bd s).length := by rw [List.length_take]; omega
          omega
        · rw [upd_same, et, List.filter_append]
          have : ([t].filter fun t => (σ.ov t).isNone) = [t] := by simp [List.filter, show σ.ov t = none from z]
          rw [this, List.map_append]; rfl
        · rw [upd_ne (ne_of_none z nD)]; exact s2 b o z
      | some v =>
        rw [e0] at z
        obtain ⟨b', _, _, eb⟩ := z
        refine iteF ⟨?_, s2⟩
        rw [et, List.filter_append]
        have : ([t].filter fun t => (σ.ov t).isNone) = [] := by simp [List.filter, eb]
        rw [this, List.append_nil]; exact hD
    rintro H2 ⟨hD, s2⟩
    rw [List.length_map, List.take_length] at hD
    have hwl : (waitsOf σ s).length ≤ 400 := by
      have h1 := List.length_filter_le (fun t => (σ.ov t).isNone) (σ.bd s)
      have h3 := nd_le bdnd bdU
      show ((σ.bd s).filter _).length ≤ 400
      omega
    refine ⟨D, waitsOf σ s, rfl, SqL.of hD, by omega, fun H3 h M s3 nh pm ps hh => ?_⟩
    have eM : asc (waitsOf σ s) = M := filter_asc bdnd pm ps
    have s13 := (s1.trans s2).trans s3
    have hp3 := s13 _ _ hp
    refine ⟨_, rfl, !(M.map V.int).isEmpty, .inr (.inl ⟨_, SqT.of hh, rfl⟩), ?_⟩
    by_cases hw : waitsOf σ s = []
    · have hM : M = [] := by rw [hw] at pm; exact pm.eq_nil
      have em : comM σ s k = (commS σ s k, ⟨"commit", [], .non, []⟩) := if_neg fun z => z hw
      rw [em] at kk
      rw [hM]
      refine iteF ?_
      refine ⟨_, rfl, p, T.c_State, dx, _, _, rfl, hp3, T.cl_State, T.na_State_over, rfl, dv, ov, rfl, .inl (s13 _ _ hov), fun O nO => ?_⟩
      have s4 := same_new (o := .dK ov) s13 nO
      have pu : ((putK ov (Sum.inl s) (.str "committed")).map (·.1)).Nodup ∧ ∀ x, POver U (commS σ s k) x (valV (putK ov (Sum.inl s) (.str "committed")) x) := over_put (σ' := commS σ s k) (b := true) ond hO hs (by exact if_pos rfl) fun x nx => if_neg nx
      have hsv4 := s4 _ _ hsv
      refine ⟨_, rfl, _, rfl, O, _, rfl, DPut.k (k := Sum.inl s) upd_same (small1000 (by have := len_over ond hO; omega)), ?_⟩
      have hO5 : (upd (upd H3 O (.dK ov)) O (.dK (putK ov (Sum.inl s) (.str "committed")))) O = some (.dK (putK ov (Sum.inl s) (.str "committed"))) := upd_same
      have s5 : Same H (upd (upd H3 O (.dK ov)) O (.dK (putK ov (Sum.inl s) (.str "committed")))) := fun x o z => by
        have : x ≠ O := ne_of_none (s13 _ _ z) nO
        rw [upd_ne this]; exact s4 x o z
      have fO : H O = none := s13.free nO
      generalize (upd (upd H3 O (.dK ov)) O (.dK (putK ov (Sum.inl s) (.str "committed")))) = H5 at hO5 s5 ⊢
      have dds : d ≠ ds := fun z => by
        have e1 := B.tbl
        rw [z, hsv] at e1
        have e2 : sv = tabS ENT g := by cases e1; rfl
        have e3 := hSt (Sum.inr "read late")
        rw [e2, val_in (g := V.str) (by decide)] at e3
        obtain ⟨_, e4, _⟩ := e3
        cases e4
      have bds : b ≠ ds := fun z => by have := B.ins; rw [z, hsv] at this; cases this
      have hsv5 := s5 _ _ hsv
      have hp5 := s5 _ _ hp
      have hbv5 := s5 _ _ hbv
      have Ods : O ≠ ds := fun z => by rw [z, hsv] at fO; cases fO
      have Odb : O ≠ db := fun z => by rw [z, hbv] at fO; cases fO
      have pds : p ≠ ds := fun z => by rw [z, hsv] at hp; cases hp
      refine ⟨fun τ H' => ∃ (D : Addr) (nkv : List (Key × V)), τ = [some (.ref b), some (.ref p), some (.int s), some (.ref q), none, some (.ref h), some (.ref O), none, none, some (.ref D)] ∧ H' D = some (.dK nkv) ∧ Same H5 H' ∧ H5 D = none ∧ (nkv.map (·.1)).Nodup ∧ ∀ x, PStore T.c_Item U N H' (commS σ s k) x (valV nkv x), ?_, ?_⟩
      · refine ⟨ds, .dK sv, hsv5, trivial, fun od => ?_⟩
        have hpL : (upd H5 ds (.frz od (.dK sv))) p = _ := (upd_ne pds).trans hp5
        refine ⟨_, rfl, p, T.c_State, dx, _, _, rfl, hpL, T.cl_State, T.na_State_store, rfl, ds, od, sv, rfl, upd_same, fun D nD => ?_⟩
        have l0 : LockS ds od (.dK sv) H5 (upd H5 ds (.frz od (.dK sv))) := LockS.start
        have nD5 : H5 D = none := l0.free nD hsv5
        have Dds : D ≠ ds := fun z => by rw [z, hsv5] at nD5; cases nD5
        have t3 : ∀ {H'}, LockS ds od (.dK sv) H5 H' → SameT H H' := fun {H'} l x o st z => l.but x o (fun q => by rw [q, hsv] at z; cases z; exact st) (s5 x o z)
        refine dc_it walk_items (fun i H' => ∃ nkv : List (Key × V), H' D = some (.dK nkv) ∧ LockS ds od (.dK sv) H5 H' ∧ Made sv nkv i (RSt T.c_Item U N H' fun n => setI s k (σ.it n)))
          ⟨[], upd_same, l0.new nD, Made.nil⟩ (fun i H' _ ⟨_, _, l, _⟩ => l.at_) ?_ ?_
        · rintro i x H6 H7 hi ⟨nkv, hD, l4, md⟩ ⟨T', x1, x2, rfl, nT, rfl, e1, e2⟩
          have e1 : sv[i]?.map (fun kv => kV kv.1) = some x1 := e1
          have e2 : sv[i]?.map Prod.snd = some x2 := e2
          cases hq : sv[i]? with
          | none => rw [hq] at e1; cases e1
          | some kv =>
          obtain ⟨kk', v⟩ := kv
          rw [hq] at e1 e2
          cases e1
          cases e2
          have hb := hSt kk'
          rw [val_at snd hq] at hb
          cases kk' with
          | inl _ => cases hb
          | inr n =>
          obtain ⟨q', rfl, nN, hI, wf⟩ := hb
          have l5 := l4.new (o := .tup [kV (Sum.inr n), .ref q']) nT
          have hD5 := kp (o' := .tup [kV (Sum.inr n), .ref q']) nT hD
          have t45 : SameT H6 (upd H6 T' (.tup [kV (Sum.inr n), .ref q'])) := SameT.new nT
          have hT5 : (upd H6 T' (.tup [kV (Sum.inr n), .ref q'])) T' = some (.tup [kV (Sum.inr n), .ref q']) := upd_same
          generalize upd H6 T' (.tup [kV (Sum.inr n), .ref q']) = H7 at l5 hD5 hT5 t45
          have B7 : Bk T.c_Book H7 b dxb d g e (k : Int) := ⟨l5.but _ _ bds (s5 _ _ B.ins), l5.but _ _ dds (s5 _ _ B.tbl)⟩
          refine ⟨T', _, rfl, SqT.of hT5, rfl, _, _, rfl, _, _, rfl, rfl, rfl, ?_⟩
          refine ⟨_, rfl, _, rfl, _, rfl, _, rfl, b, dxb, _, rfl, B7.ins, b, dxb, d, g, e, (k : Int), rfl, B7, ?_⟩
          refine ⟨q', σ.it n, s, k, rfl, hI.sameT (t3 l5), wf.le, k1, fun H8 q2 sm hI6 => ?_⟩
          have hD6 := sm _ _ hD5
          refine ⟨_, Sum.inr n, rfl, hD6, small1000 (by have := md.len; have := len_store snd hSt; omega), putK nkv (Sum.inr n) (.ref q2), upd_same, (l5.same sm).put nD5 Dds, ?_⟩
          have t6 : SameT H8 (upd H8 D (.dK (putK nkv (Sum.inr n) (.ref q2)))) := SameT.chg hD6 (fun z => z)
          exact ((md.mono (RSt.sameT ((t45.trans (SameT.of sm))))).step snd hq ⟨n, q2, rfl, rfl, nN, hI6, wf.set k1 k20⟩).mono (RSt.sameT t6)
        · rintro H6 ⟨nkv, hD, l4, md⟩
          refine ⟨l4.at_, ?_⟩
          have tu : SameT H6 (upd H6 ds (.dK sv)) := SameT.chg l4.at_ (fun z => z)
          have sm := store_map (g := setI s k) (σ' := commS σ s k) setI0 snd hSt (md.mono (RSt.sameT tu)) (fun _ => rfl)
          exact ⟨D, nkv, rfl, by rw [upd_ne Dds]; exact hD, l4.unlock hsv5, nD5, sm.1, sm.2⟩
      rintro τ H6 ⟨D, nkv, rfl, hD4, s6, nD, nnd, hN4⟩
      refine ⟨_, rfl, _, rfl, _, rfl, p, T.c_State, dx, _, _, rfl, s6 _ _ hp5, T.cl_State, T.na_State_bonds, rfl, fun x dx' nx ndx ne => mk_state nx ndx fun H7 s7 hx => ⟨rfl, zero, fun u nu => ⟨zero, fun v nv => ⟨four, fun o no => ⟨two, fun r nr => ?_⟩⟩⟩⟩⟩
      have t1 := same_new (o := .tup []) (Same.refl H7) nu
      have t2 := same_new (o := .tup []) t1 nv
      have t3 := same_new (o := .tup [.str "commit", .ref u, .non, .ref v]) t2 no
      have t4 := same_new (o := .tup [.ref x, .ref o]) t3 nr
      have s57 := (s6.trans s7).trans t4
      have s07 := s5.trans s57
      refine kk _ r s07 ⟨x, o, upd_same, ⟨dx', D, O, db, t4 _ _ hx, ?_, ?_, Odb, ⟨nkv, (s7.trans t4) _ _ hD4, nnd, store_congr hN4 (SameT.of (s7.trans t4)) fun _ => rfl⟩, ⟨_, s57 _ _ hO5, pu.1, pu.2⟩, ⟨bv, s57 _ _ hbv5, bnd, bond_congr hB s07 fun _ => rfl⟩⟩, ⟨u, .non, v, kp nr upd_same, kp nr (kp no (kp nv upd_same)), rfl, kp nr (kp no upd_same)⟩⟩
      · exact fun z => by rw [z, hO5] at nD; cases nD
      · exact fun z => by rw [z, hbv5] at nD; cases nD
    · have em : comM σ s k = (σ, ⟨"wait", [], .tup (asc (waitsOf σ s)), []⟩) := if_pos hw
      rw [em, eM] at kk
      have hM : M ≠ [] := by
        intro z; rw [z] at pm; exact hw pm.symm.eq_nil
      obtain ⟨y, ys, ey⟩ : ∃ y ys, M = y :: ys := by cases M with | nil => exact absurd rfl hM | cons y ys => exact ⟨y, ys, rfl⟩
      have eb : (!(M.map V.int).isEmpty) = true := by rw [ey]; rfl
      rw [eb]
      refine iteT ⟨_, rfl, zero, fun u nu => ⟨_, rfl, zero, fun v nv => ⟨four, fun o no => ⟨two, fun r nr => ?_⟩⟩⟩⟩
      have t1 := same_new (o := .tup []) (Same.refl H3) nu
      have t2 := same_new (o := .tup []) t1 nv
      have t3 := same_new (o := .tup [.str "wait", .ref u, .ref h, .ref v]) t2 no
      have t4 := same_new (o := .tup [.ref p, .ref o]) t3 nr
      exact kk _ r (s13.trans t4) ⟨p, o, upd_same, st.same (s13.trans t4), ⟨u, .ref h, v, kp nr upd_same, kp nr (kp no (kp nv upd_same)), ⟨h, rfl, t4 _ _ hh⟩, kp nr (kp no upd_same)⟩⟩
end
end K16

namespace K16
open PySem L2 SI CM BK OWN
section
variable {w : World} {K : PySem.W.Frag} {mg : Str → Option Value} {base : Heap} (T : Txt w K mg)
abbrev KINDS : List Str := ["read", "write"]
abbrev SPOTS : List Str := ["free", "own", "late", "under", "below", "above"]
/-- the entry that is met -/
def entM (k sp : Str) (p : Bool) : Option Str := if k = "write" ∧ p = true then some (Str.empty ++ "write " ++ sp ++ " passed") else if sp ∈ (["free", "own"] : List Str) then none else some (Str.empty ++ k ++ " " ++ sp)
def fixM (k sp : Str) : Str := if k = "write" then "put" else if sp = "free" then "last" else "open"
theorem ent_in : ∀ k ∈ KINDS, ∀ sp ∈ SPOTS, ∀ p : Bool, ∀ e, entM k sp p = some e → e ∈ ENT := by
  have h : ∀ k ∈ KINDS, ∀ sp ∈ SPOTS, ∀ p ∈ [true, false], ((entM k sp p).all fun e => decide (e ∈ ENT)) = true := by decide +kernel
  intro k hk sp hs p e he
  have := h k hk sp hs p (by cases p <;> simp)
  rw [he] at this
  exact of_decide_eq_true this
theorem lens : ∀ k ∈ KINDS, ∀ sp ∈ SPOTS, (Str.empty ++ "write ").length ≤ 30 ∧ (Str.empty ++ "write " ++ sp).length ≤ 30 ∧ (Str.empty ++ "write " ++ sp ++ " passed").length ≤ 30 ∧ (Str.empty ++ k).length ≤ 30 ∧ (Str.empty ++ k ++ " ").length ≤ 30 ∧ (Str.empty ++ k ++ " " ++ sp).length ≤ 30 := by decide +kernel
theorem sp_len : ∀ sp ∈ SPOTS, sp.length ≤ 30 := by decide +kernel
theorem k_len : ∀ sp ∈ KINDS, sp.length ≤ 30 := by decide +kernel
theorem ds (a b : Str) : decide (V.str a = V.str b) = decide (a = b) := decide_eq_decide.mpr ⟨V.str.inj, congrArg _⟩
def oV : Option Str → V
  | none => .non
  | some e => .str e
def spEM : Sp := fun vs H Q _ => ∃ k sp p, vs = [.str k, .str sp, .bl p] ∧ k ∈ KINDS ∧ sp ∈ SPOTS ∧ ∀ H', Same H H' → Q (oV (entM k sp p)) H'
theorem ok_entry_met : FnOk PP w K mg base CX0 1 T.f_entry_met T.d_entry_met ["kind", "spot", "passed"] spEM := by
  refine T.F_entry_met.ok sc_entry_met (fun vs H Q E h => ?_) (fun cdv A outer s H vs Q E hr h => ?_)
  · obtain ⟨k, sp, p, rfl, _⟩ := h
    rfl
  · obtain ⟨kd, sp, p, rfl, hk, hs, k⟩ := h
    refine ⟨_, pss_cons (ps_if (PW.pt (pw_and (pt_cmpR op_eq (pv 0) pe_str (nomark _)) (pw_and1 (pt_val (pv 2)))))
 (pss_one (ps_ret (pe_joined (.cons pe_str (.cons (pe_fmt (pv 1)) (.cons pe_str .nil))))))
 pss_nil)
 (pss_cons (ps_if (pt_cmpR op_in_seq (pv 1) (pe_tup (pa_cons pe_str (pa_cons pe_str pa_nil))) rfl)
 (pss_one (ps_ret pe_non))
 pss_nil)
 (pss_one (ps_ret (pe_joined (.cons (pe_fmt (pv 0)) (.cons pe_str (.cons (pe_fmt (pv 1)) .nil))))))), ?_⟩
    have two : 2 ≤ sizeLine := by decide
    have big : ∀ n : Nat, n ≤ 30 → n ≤ sizeLine := fun n h => Nat.le_of_lt (small1000 (by omega))
    obtain ⟨l1, l2, l3, l4, l5, l6⟩ := lens kd hk sp hs
    have lsp := sp_len sp hs
    have lk := k_len kd hk
    refine ⟨_, rfl, rfl, _, rfl, ?_⟩
    rw [ds]
    by_cases hw : kd = "write"
    · subst hw
      refine iteT ⟨_, rfl, _, rfl, ?_⟩
      cases p with
      | true =>
        have k := k H (Same.refl H)
        rw [show entM "write" sp true = some (Str.empty ++ "write " ++ sp ++ " passed") from if_pos ⟨rfl, rfl⟩] at k
        exact iteT ⟨_, rfl, big _ l1, _, rfl, .inl ⟨_, rfl, big _ lsp, _, rfl, big _ l2, _, rfl, big _ l3, k⟩⟩
      | false =>
        have hE : entM "write" sp false = if sp ∈ (["free", "own"] : List Str) then none else some (Str.empty ++ "write" ++ " " ++ sp) := if_neg (fun z => by cases z.2)
        refine iteF ?_
        refine ⟨_, rfl, two, fun t nt => ?_⟩
        refine ⟨t, (["free", "own"] : List Str).map V.str, rfl, .inr (SqT.of upd_same), rfl, flat_strs _, _, rfl, ?_⟩
        have sm := same_new (o := .tup ((["free", "own"] : List Str).map V.str)) (Same.refl H) nt
        rw [inV_str]
        have k := k _ sm
        by_cases hf : sp ∈ (["free", "own"] : List Str)
        · rw [hE, if_pos hf] at k
          rw [decide_eq_true hf]
          exact iteT k
        · rw [hE, if_neg hf] at k
          rw [decide_eq_false hf]
          exact iteF ⟨_, rfl, .inl ⟨_, rfl, big _ lk, _, rfl, big _ l4, _, rfl, big _ l5, _, rfl, .inl ⟨_, rfl, big _ lsp, _, rfl, big _ l6, k⟩⟩⟩
    · rw [decide_eq_false hw]
      have hE : entM kd sp p = if sp ∈ (["free", "own"] : List Str) then none else some (Str.empty ++ kd ++ " " ++ sp) := if_neg (fun z => hw z.1)
      refine iteF (iteF ?_)
      refine ⟨_, rfl, two, fun t nt => ?_⟩
      refine ⟨t, (["free", "own"] : List Str).map V.str, rfl, .inr (SqT.of upd_same), rfl, flat_strs _, _, rfl, ?_⟩
      have sm := same_new (o := .tup ((["free", "own"] : List Str).map V.str)) (Same.refl H) nt
      rw [inV_str]
      have k := k _ sm
      by_cases hf : sp ∈ (["free", "own"] : List Str)
      · rw [hE, if_pos hf] at k
        rw [decide_eq_true hf]
        exact iteT k
      · rw [hE, if_neg hf] at k
        rw [decide_eq_false hf]
        exact iteF ⟨_, rfl, .inl ⟨_, rfl, big _ lk, _, rfl, big _ l4, _, rfl, big _ l5, _, rfl, .inl ⟨_, rfl, big _ lsp, _, rfl, big _ l6, k⟩⟩⟩
def spFix : Sp := fun vs H Q _ => ∃ k sp, vs = [.str k, .str sp] ∧ Q (.str (fixM k sp)) H
theorem ok_fixed : FnOk PP w K mg base CX0 1 T.f_fixed_answer T.d_fixed_answer ["kind", "spot"] spFix := by
  refine T.F_fixed_answer.ok sc_fixed_answer (fun vs H Q E h => ?_) (fun cdv A outer s H vs Q E hr h => ?_)
  · obtain ⟨k, sp, rfl, _⟩ := h
    rfl
  · obtain ⟨kd, sp, rfl, k⟩ := h
    refine ⟨_, pss_cons (ps_if (pt_cmpR op_eq (pv 0) pe_str (nomark _))
 (pss_one (ps_ret pe_str))
 pss_nil)
 (pss_one (ps_ret (pe_ifExp (pt_cmpR op_eq (pv 1) pe_str (nomark _)) pe_str pe_str))), ?_⟩
    unfold fixM at k
    refine ⟨_, rfl, rfl, _, rfl, ?_⟩
    rw [ds]
    by_cases h : kd = "write"
    · rw [if_pos h] at k
      rw [decide_eq_true h]
      exact iteT k
    · rw [if_neg h] at k
      rw [decide_eq_false h]
      refine iteF ⟨_, rfl, rfl, _, rfl, ?_⟩
      rw [ds]
      by_cases h2 : sp = "free"
      · rw [if_pos h2] at k
        rw [decide_eq_true h2]
        exact iteT k
      · rw [if_neg h2] at k
        rw [decide_eq_false h2]
        exact iteF k
end
end K16

namespace K16
open PySem L2 SI CM BK OWN MIR StX TX TL
section
variable {w : World} {K : PySem.W.Frag} {mg : Str → Option Value} {base : Heap} (T : Txt w K mg)
def hVo : Option Int → V
  | none => .non
  | some h => .int h
theorem hV_o (i : MIR.It) : hV i = hVo (hOf i) := by
  unfold hV hOf
  split <;> (rename_i e; rw [e]; rfl)
def spPlaceI : Sp := fun vs H Q _ => ∃ (s x : Int) (h : Option Int), vs = [.int s, .int x, hVo h] ∧ Q (.str (placeM s x h)) H
theorem ok_place : FnOk PP w K mg base CX0 1 T.f_place T.d_place ["asker", "last", "holder"] spPlaceI := by
  refine T.F_place.ok sc_place (fun vs H Q E h => ?_) (fun cdv A outer s H vs Q E hr h => ?_)
  · obtain ⟨s, x, h, rfl, _⟩ := h
    rfl
  · obtain ⟨s, x, h, rfl, k⟩ := h
    refine ⟨_, pss_cons (ps_if (pt_cmpR op_isN (pv 2) pe_non (nomark _))
 (pss_one (ps_ret (pe_ifExp (pt_cmpR op_lt (pv 1) (pv 0) (nomark _)) pe_str pe_str)))
 pss_nil)
 (pss_cons (ps_if (pt_cmpR op_eq (pv 2) (pv 0) (nomark _))
 (pss_one (ps_ret pe_str))
 pss_nil)
 (pss_cons (ps_if (pt_cmpR op_lt (pv 0) (pv 1) (nomark _))
 (pss_one (ps_ret pe_str))
 pss_nil)
 (pss_one (ps_ret (pe_ifExp (pt_cmpR op_lt (pv 0) (pv 2) (nomark _)) pe_str pe_str))))), ?_⟩
    refine ⟨_, rfl, rfl, _, rfl, ?_⟩
    cases h with
    | none =>
      rw [show decide (hVo none = .non) = true from rfl]
      refine iteT ⟨_, rfl, _, rfl, _, _, rfl, rfl, _, rfl, ?_⟩
      refine ite2 (fun c => ?_) (fun c => ?_)
      · rw [show placeM s x none = "free" from if_pos (of_decide_eq_true c)] at k; exact k
      · rw [show placeM s x none = "late" from if_neg (of_decide_eq_false (by cases q : decide (x < s) with | true => exact absurd q c | false => rfl))] at k; exact k
    | some h =>
      rw [show decide (hVo (some h) = .non) = false from rfl]
      refine iteF ⟨_, rfl, _, rfl, rfl, _, rfl, ?_⟩
      by_cases e1 : h = s
      · rw [show decide (hVo (some h) = V.int s) = true from decide_eq_true (congrArg V.int e1)]
        rw [show placeM s x (some h) = "own" from if_pos e1] at k
        exact iteT k
      · rw [show decide (hVo (some h) = V.int s) = false from decide_eq_false (fun z => e1 (V.int.inj z))]
        refine iteF ⟨_, rfl, _, rfl, _, _, rfl, rfl, _, rfl, ?_⟩
        by_cases e2 : s < x
        · rw [decide_eq_true e2]
          rw [show placeM s x (some h) = "under" from (if_neg e1).trans (if_pos e2)] at k
          exact iteT k
        · rw [decide_eq_false e2]
          refine iteF ⟨_, rfl, _, rfl, _, _, rfl, rfl, _, rfl, ?_⟩
          by_cases e3 : s < h
          · rw [decide_eq_true e3]
            rw [show placeM s x (some h) = "below" from (if_neg e1).trans ((if_neg e2).trans (if_pos e3))] at k
            exact iteT k
          · rw [decide_eq_false e3]
            rw [show placeM s x (some h) = "above" from (if_neg e1).trans ((if_neg e2).trans (if_neg e3))] at k
            exact iteF k
def spOlder (CI : Addr) : Sp := fun vs H Q _ => ∃ (p : Addr) (i : MIR.It) (s : Int), vs = [.ref p, .int s] ∧ ItAt CI H p i ∧ i.kept.length ≤ 20 ∧ ∀ (H' : Hp) (q : Addr), Same H H' → H q = none → H' q = some (.lst ((oldM i s).map V.int)) → Q (.ref q) H'
theorem old_take {i : MIR.It} {s : Int} : oldM i s = (i.kept.filter fun p => decide (p.1 < s)).map (·.2) := rfl
theorem ok_older_values : FnOk PP w K mg base CX0 1 T.f_older_values T.d_older_values ["item", "stamp"] (spOlder T.c_Item) := by
  refine T.F_older_values.ok sc_older_values (fun vs H Q E h => ?_) (fun cdv A outer s H vs Q E hr h => ?_)
  · obtain ⟨p, i, s, rfl, _⟩ := h
    rfl
  · obtain ⟨p, i, s, rfl, hi, h20, kk⟩ := h
    refine ⟨_, pss_one (ps_ret (pe_lc (own := [("writer", 2), ("value", 3)]) (g := (gTup K 2 (gCons (gName 2) (gCons (gName 3) gNil)))) (tt := tTest (tOp (rI0 fun i j => .bl (decide (i < j))) (tVar 2) (tVar 1))) (by rfl) sc_older_values.nd (pi_tup (pe_fld (pv 0) rfl)) (blkOk_by (N := ["item", "stamp", "writer", "value"]) (sc := defScope s_older_values) (by decide +kernel)) (fun _ _ _ _ _ => pg_tup rfl (pgs_cons (pg_name (i := 2) sc_older_values.nd rfl (.inl rfl)) (pgs_cons (pg_name (i := 3) sc_older_values.nd rfl (.inl rfl)) pgs_nil))) (fun _ _ _ _ _ => pts_one (pt_cmpR op_lt (pv 2) (pv 1) (nomark _))) (fun _ _ _ _ _ => (pv 3)))), ?_⟩
    obtain ⟨dx, ka, hp, ps, hka, hps⟩ := hi
    refine ⟨_, rfl, p, T.c_Item, dx, _, _, rfl, hp, T.cl_Item, T.na_Item_kept, rfl, ka, rfl, ⟨_, SqT.of hka⟩, fun D nD => lc_tup (xs := ps.map V.ref) (fun j H' => H' D = some (.lst ((((i.kept.take j).filter fun p => decide (p.1 < s)).map (·.2)).map V.int)) ∧ Same H H')
      ⟨upd_same, same_new (Same.refl H) nD⟩ (fun j H' _ h => SqT.of (h.2 _ _ hka)) ?_ ?_⟩
    · rintro j x H1 hx ⟨hD, s1⟩
      rw [List.getElem?_map] at hx
      cases hq : ps[j]? with
      | none => rw [hq] at hx; cases hx
      | some y =>
      rw [hq] at hx
      cases hx
      obtain ⟨v, hv, hy⟩ := hps.at hq
      have et : i.kept.take (j + 1) = i.kept.take j ++ [v] := by rw [List.take_add_one, hv]; rfl
      have hl : (((i.kept.take j).filter fun p => decide (p.1 < s)).map (·.2)).length < 1000 := by
        rw [List.length_map]
        have h1 := List.length_filter_le (fun p : Int × Int => decide (p.1 < s)) (i.kept.take j)
        rw [List.length_take] at h1
        omega
      refine ⟨y, _, rfl, SqT.of (s1 _ _ hy), rfl, _, _, rfl, _, _, rfl, rfl, rfl, ?_⟩
      refine ⟨_, rfl, _, rfl, _, _, rfl, rfl, _, rfl, ?_⟩
      by_cases c : v.1 < s
      · rw [decide_eq_true c]
        refine iteT ⟨_, rfl, _, hD, small1000 (by rw [List.length_map]; exact Nat.le_of_lt hl), ?_, fun b o z => ?_⟩
        · rw [upd_same, et, List.filter_append]
          have : ([v].filter fun p : Int × Int => decide (p.1 < s)) = [v] := by simp [List.filter, c]
          rw [this, List.map_append, List.map_append]; rfl
        · rw [upd_ne (ne_of_none z nD)]; exact s1 b o z
      · rw [decide_eq_false c]
        refine iteF ⟨?_, s1⟩
        rw [et, List.filter_append]
        have : ([v].filter fun p : Int × Int => decide (p.1 < s)) = [] := by simp [List.filter, c]
        rw [this, List.append_nil]; exact hD
    · rintro H1 ⟨hD, s1⟩
      rw [List.length_map, hps.len, List.take_length] at hD
      exact kk H1 D s1 nD hD
end
end K16

/-! Bonds and items put. -/
namespace MIR
open PySem L2 CM BK
theorem F2.last {α β : Type} {R : α → β → Prop} {as : List α} {bs : List β} {d : β} (h : F2 R as bs) (n : bs ≠ []) : ∃ as' a, as = as' ++ [a] ∧ R a (bs.getLastD d) := by
  have hl : 0 < bs.length := by cases bs with | nil => exact absurd rfl n | cons _ _ => exact Nat.zero_lt_succ _
  have hl2 := h.len
  have na : as ≠ [] := by intro z; rw [z] at hl2; simp at hl2; omega
  obtain ⟨as', a, e⟩ : ∃ as' a, as = as' ++ [a] := ⟨as.dropLast, as.getLast na, (List.dropLast_concat_getLast na).symm⟩
  refine ⟨as', a, e, ?_⟩
  have ea : as[as'.length]? = some a := by rw [e]; simp
  obtain ⟨b, hb, r⟩ := h.at ea
  have : as'.length = bs.length - 1 := by rw [← hl2, e, List.length_append]; simp
  rw [this] at hb
  have e2 : bs.getLastD d = b := by
    rw [List.getLastD_eq_getLast?, List.getLast?_eq_getElem?, hb]; rfl
  rw [e2]; exact r
section
variable {H H' : Hp} {C d : Addr} {U : List Int} {N : List Str} {σ σ' : S} {kvs nkv : List (Key × V)} {t : Int} {n : Str} {q : Addr} {L : List Int} {i : It}
theorem bond_put (nd : (kvs.map (·.1)).Nodup) (hP : ∀ k, PBond U H σ k (valV kvs k)) (s : Same H H') (ht : t ∈ U) (hq : H' q = some (.tup (L.map V.int))) (hn : L.Nodup) (hU : ∀ h ∈ L, h ∈ U) (h1 : σ'.bd t = L) (h2 : ∀ x, x ≠ t → σ'.bd x = σ.bd x) :
    ((putK kvs (Sum.inl t) (.ref q)).map (·.1)).Nodup ∧ ∀ k, PBond U H' σ' k (valV (putK kvs (Sum.inl t) (.ref q)) k) := by
  refine ⟨nd_put nd, fun k => ?_⟩
  rw [valV_put]
  by_cases e : k = Sum.inl t
  · rw [if_pos e, e]
    exact ⟨q, rfl, ht, by rw [h1]; exact hq, by rw [h1]; exact hn, by rw [h1]; exact hU⟩
  · rw [if_neg e]
    have z := hP k
    cases k with
    | inr n => exact z
    | inl x =>
      have nx : x ≠ t := fun q => e (by rw [q])
      have e2 := h2 x nx
      cases e3 : valV kvs (Sum.inl x) with
      | none => rw [e3] at z; exact e2.trans z
      | some v =>
        rw [e3] at z
        obtain ⟨q', h3, h4, h5, h6, h7⟩ := z
        exact ⟨q', h3, h4, by rw [e2]; exact s _ _ h5, by rw [e2]; exact h6, by rw [e2]; exact h7⟩
theorem store_put (nd : (kvs.map (·.1)).Nodup) (hP : ∀ k, PStore C U N H σ k (valV kvs k)) (s : SameT H H') (hn : n ∈ N) (hq : ItAt C H' q i) (wf : WfI U i) (h1 : σ'.it n = i) (h2 : ∀ x, x ≠ n → σ'.it x = σ.it x) :
    ((putK kvs (Sum.inr n) (.ref q)).map (·.1)).Nodup ∧ ∀ k, PStore C U N H' σ' k (valV (putK kvs (Sum.inr n) (.ref q)) k) := by
  refine ⟨nd_put nd, fun k => ?_⟩
  rw [valV_put]
  by_cases e : k = Sum.inr n
  · rw [if_pos e, e]
    exact ⟨q, rfl, hn, by rw [h1]; exact hq, by rw [h1]; exact wf⟩
  · rw [if_neg e]
    have z := hP k
    cases k with
    | inl n => exact z
    | inr x =>
      have nx : x ≠ n := fun q => e (by rw [q])
      have e2 := h2 x nx
      cases e3 : valV kvs (Sum.inr x) with
      | none => rw [e3] at z; exact e2.trans z
      | some v =>
        rw [e3] at z
        obtain ⟨q', h3, h4, h5, h6⟩ := z
        exact ⟨q', h3, h4, by rw [e2]; exact h5.sameT s, by rw [e2]; exact h6⟩
end
end MIR

namespace K16
open PySem L2 SI CM BK OWN MIR StX TX TL
section
variable {w : World} {K : PySem.W.Frag} {mg : Str → Option Value} {base : Heap} (T : Txt w K mg)
def spValRead (CI : Addr) : Sp := fun vs H Q _ => ∃ (p : Addr) (i : MIR.It) (s : Int) (a : Str), vs = [.ref p, .int s, .str a] ∧ ItAt CI H p i ∧ i.kept ≠ [] ∧ i.kept.length ≤ 20 ∧ (a = "old" → oldM i s ≠ []) ∧ ∀ (H' : Hp) (v : V), Same H H' → OvAt H' v (valM i s a) → Q v H'
theorem ok_value_read : FnOk PP w K mg base CX0 2 T.f_value_read T.d_value_read ["item", "stamp", "answer"] (spValRead T.c_Item) := by
  refine T.F_value_read.ok sc_value_read (fun vs H Q E h => ?_) (fun cdv A outer s H vs Q E hr h => ?_)
  · obtain ⟨p, i, s, a, rfl, _⟩ := h
    rfl
  · obtain ⟨p, i, s, a, rfl, hi, hne, h20, hold, kk⟩ := h
    refine ⟨_, pss_cons (ps_if (pt_cmpR op_eq (pv 2) pe_str (nomark _))
 (pss_one (ps_ret (pe_fld (pv 0) rfl)))
 pss_nil)
 (pss_cons (ps_if (pt_cmpR op_eq (pv 2) pe_str (nomark _))
 (pss_one (ps_ret (pe_ix ix_list (pe_call (ok_older_values T) (hr.mono (by decide)) (by rfl) T.g_older_values T.F_older_values.kp (b_older_values T) .nil pass0 (pa_cons (pv 0) (pa_cons (pv 1) pa_nil))) (pe_un un_neg pe_int) (fun _ _ => rfl))))
 pss_nil)
 (pss_one (ps_ret (pe_ix ix_tup (pe_ix ix_tup (pe_fld (pv 0) rfl) (pe_un un_neg pe_int) (fun _ _ => rfl)) pe_int (fun _ _ => rfl))))), ?_⟩
    have hi' := hi
    obtain ⟨dx, ka, hp, ps, hka, hps⟩ := hi
    refine ⟨_, rfl, rfl, _, rfl, ?_⟩
    rw [ds]
    by_cases e1 : a = "open"
    · rw [decide_eq_true e1]
      refine iteT ⟨_, rfl, p, T.c_Item, dx, _, _, rfl, hp, T.cl_Item, T.na_Item_value, rfl, kk H _ (Same.refl H) ?_⟩
      unfold valM vV
      rw [if_pos e1]
      cases i.opn with
      | none => rfl
      | some hv => rfl
    · rw [decide_eq_false e1]
      refine iteF ⟨_, rfl, rfl, _, rfl, ?_⟩
      rw [ds]
      by_cases e2 : a = "old"
      · rw [decide_eq_true e2]
        have hn := hold e2
        have hv : valM i s a = .int ((oldM i s).getLastD 0) := (if_neg e1).trans (if_pos e2)
        refine iteT ⟨_, rfl, _, rfl, p, i, s, rfl, hi', h20, fun H1 q s1 nq hq => ⟨_, rfl, q, _, _, .int ((oldM i s).getLastD 0), rfl, rfl, SqL.of hq, ?_, kk H1 _ s1 (by rw [hv]; rfl)⟩⟩
        obtain ⟨l, y, e⟩ : ∃ l y, oldM i s = l ++ [y] := ⟨_, _, (List.dropLast_concat_getLast hn).symm⟩
        rw [e, List.map_append]
        show atI (l.map V.int ++ [V.int y]) (-1) = _
        rw [atI_last]
        simp [List.getLastD_eq_getLast?]
      · rw [decide_eq_false e2]
        have hv : valM i s a = .int (lastV i).2 := (if_neg e1).trans (if_neg e2)
        obtain ⟨l, y, e, hy⟩ := hps.last (d := (0, 0)) hne
        have hy : H y = some (.tup [.int (lastV i).1, .int (lastV i).2]) := hy
        refine iteF ⟨_, rfl, p, T.c_Item, dx, _, _, rfl, hp, T.cl_Item, T.na_Item_kept, rfl, _, rfl, ka, _, _, .ref y, rfl, rfl, SqT.of hka, ?_, y, _, _, .int (lastV i).2, rfl, rfl, SqT.of hy, rfl, kk H _ (Same.refl H) (by rw [hv]; rfl)⟩
        rw [e, List.map_append]
        exact atI_last _ _
def spBinds : Sp := fun vs H Q _ => ∃ (e sp a : Str), vs = [.str e, .str sp, .str a] ∧ ∀ (H' : Hp), Same H H' → Q (.bl (bindM e sp a)) H'
theorem ok_binds : FnOk PP w K mg base CX0 1 T.f_binds T.d_binds ["ends", "spot", "answer"] spBinds := by
  refine T.F_binds.ok sc_binds (fun vs H Q E h => ?_) (fun cdv A outer s H vs Q E hr h => ?_)
  · obtain ⟨e, sp, a, rfl, _⟩ := h
    rfl
  · obtain ⟨e, sp, a, rfl, kk⟩ := h
    refine ⟨_, pss_cons (ps_if (pt_cmpR op_ne (pv 0) pe_str (nomark _))
 (pss_one (ps_ret pe_bl))
 pss_nil)
 (pss_cons (ps_if (pt_cmpR op_eq (pv 2) pe_str (nomark _))
 (pss_one (ps_ret (pe_cmpR op_ne (pv 1) pe_str (nomark _))))
 pss_nil)
 (pss_one (ps_ret (pe_and (pe_cmpR op_eq (pv 2) pe_str (nomark _)) (pe_one (pe_cmpR op_in_seq (pv 1) (pe_tup (pa_cons pe_str (pa_cons pe_str pa_nil))) rfl)))))), ?_⟩
    have two : 2 ≤ sizeLine := by decide
    refine ⟨_, rfl, rfl, _, rfl, ?_⟩
    rw [ds]
    by_cases e1 : e = "after"
    · rw [decide_eq_true e1]
      refine iteF ⟨_, rfl, rfl, _, rfl, ?_⟩
      rw [ds]
      by_cases e2 : a = "open"
      · rw [decide_eq_true e2]
        have hb : bindM e sp a = decide (sp ≠ "own") := by unfold bindM; rw [decide_eq_true e1, if_pos e2]; rfl
        rw [hb] at kk
        refine iteT ⟨_, rfl, rfl, ?_⟩
        rw [ds]
        have := kk H (Same.refl H)
        rw [show (!decide (sp = "own")) = decide (sp ≠ "own") from by by_cases q : sp = "own" <;> simp [q]]
        exact this
      · rw [decide_eq_false e2]
        have hb : bindM e sp a = (decide (a = "skip") && (decide (sp = "below") || decide (sp = "above"))) := by unfold bindM; rw [decide_eq_true e1, if_neg e2]; rfl
        rw [hb] at kk
        refine iteF ⟨_, rfl, rfl, _, rfl, ?_⟩
        rw [ds]
        by_cases e3 : a = "skip"
        · rw [decide_eq_true e3] at kk ⊢
          refine iteT ⟨_, rfl, two, fun t nt => ⟨t, _, rfl, .inr (SqT.of upd_same), rfl, rfl, ?_⟩⟩
          have := kk _ (same_new (o := .tup [.str "below", .str "above"]) (Same.refl H) nt)
          rw [show inV (V.str sp) [V.str "below", V.str "above"] = decide (sp ∈ (["below", "above"] : List Str)) from inV_str sp ["below", "above"]]
          rw [show decide (sp ∈ (["below", "above"] : List Str)) = (true && (decide (sp = "below") || decide (sp = "above"))) from by simp]
          exact this
        · rw [decide_eq_false e3] at kk ⊢
          exact iteF (kk H (Same.refl H))
    · rw [decide_eq_false e1]
      have hb : bindM e sp a = false := by unfold bindM; rw [decide_eq_false e1]; rfl
      rw [hb] at kk
      exact iteT (kk H (Same.refl H))
end
end K16

namespace K16
open PySem L2 SI CM BK OWN MIR StX TX TL
section
variable {w : World} {K : PySem.W.Frag} {mg : Str → Option Value} {base : Heap} (T : Txt w K mg)
def spBond (CS CI : Addr) : Sp := fun vs H Q _ => ∃ (p : Addr) (s h : Int) (U : List Int) (N : List Str) (σ : MIR.S), vs = [.ref p, .int s, .int h] ∧ StAt CS CI U N H p σ ∧ s ∈ U ∧ h ∈ U ∧ U.length ≤ 400 ∧ ∀ (H' : Hp) (q : Addr), Same H H' → StAt CS CI U N H' q (bondS σ s h) → Q (.ref q) H'
theorem ok_with_bond : FnOk PP w K mg base CX0 3 T.f_with_bond T.d_with_bond ["state", "stamp", "holder"] (spBond T.c_State T.c_Item) := by
  refine T.F_with_bond.ok sc_with_bond (fun vs H Q E h => ?_) (fun cdv A outer s H vs Q E hr h => ?_)
  · obtain ⟨p, s, h, U, N, σ, rfl, _⟩ := h
    rfl
  · obtain ⟨p, s, h, U, N, σ, rfl, st, hs, hh, hU, kk⟩ := h
    refine ⟨_, C8.pss_cut (ps_set (i := 3) sc_with_bond.nd rfl (.inl rfl) (pe_dget2 (hu_of hr) (pe_fld (pv 0) rfl) (pv 1) (pe_tup pa_nil) (by constructor <;> rfl)))
 (pss_cons (ps_if (pt_cmpR op_in_seq (pv 2) (pv 3) rfl)
 (pss_one (ps_ret (pv 0)))
 pss_nil)
 (pss_cons (ps_set (i := 4) sc_with_bond.nd rfl (.inl rfl) (pe_callTy call_dictD (by rfl) T.n_dict (by decide +kernel) (pa_cons (pe_fld (pv 0) rfl) pa_nil)))
 (pss_cons (ps_dput (hu_of hr) (pv 4) (pv 1) (pe_tup (pa_star (pv 3) (pa_cons (pv 2) pa_nil))) rfl)
 (pss_one (ps_ret (pe_make T.mk_State (ok_State_init T) (hr.mono (by decide)) (by rfl) T.g_State (b_State_init T) .nil pass0 (pa_cons (pe_fld (pv 0) rfl) (pa_cons (pe_fld (pv 0) rfl) (pa_cons (pv 4) pa_nil))))))))), ?_⟩
    obtain ⟨dx, dsx, dv, db, hp, n1, n2, n3, D1, D2, D3⟩ := st.ex
    obtain ⟨bv, hbv, bnd, hB⟩ := D3.ex
    obtain ⟨bdnd, bdU⟩ := bd_of hB s
    have zero : 0 ≤ sizeLine := by decide
    refine ⟨fun τ H' => ∃ q, τ = [some (.ref p), some (.int s), some (.int h), some (.ref q), none] ∧ H' q = some (.tup ((σ.bd s).map V.int)) ∧ Same H H', ?_, ?_⟩
    · refine ⟨_, rfl, p, T.c_State, dx, _, _, rfl, hp, T.cl_State, T.na_State_bonds, rfl, db, rfl, .inl ⟨bv, .inl hbv⟩, _, rfl, zero, fun t nt => ?_⟩
      have gg := DGet.k (k := Sum.inl s) (kp (o' := .tup []) nt hbv)
      have z := hB (.inl s)
      refine ⟨_, gg, ?_⟩
      cases e0 : valV bv (Sum.inl s) with
      | none =>
        rw [e0] at z
        exact ⟨t, rfl, by rw [show σ.bd s = [] from z]; exact upd_same, same_new (Same.refl H) nt⟩
      | some v =>
        rw [e0] at z
        obtain ⟨q, rfl, _, hq, _⟩ := z
        exact ⟨q, rfl, kp nt hq, same_new (Same.refl H) nt⟩
    rintro τ H1 ⟨q, rfl, hq, s1⟩
    have hp1 := s1 _ _ hp
    refine ⟨_, rfl, _, rfl, q, (σ.bd s).map V.int, rfl, .inr (SqT.of hq), rfl, flat_ints _, _, rfl, ?_⟩
    rw [inV_int]
    by_cases hb : h ∈ σ.bd s
    · rw [decide_eq_true hb]
      have e0 : bondS σ s h = σ := if_pos hb
      rw [e0] at kk
      exact iteT ⟨_, rfl, kk H1 p s1 (st.same s1)⟩
    · rw [decide_eq_false hb]
      have e0 : bondS σ s h = { σ with bd := fun t => if t = s then σ.bd s ++ [h] else σ.bd t } := if_neg hb
      rw [e0] at kk
      refine iteF ⟨_, rfl, p, T.c_State, dx, _, _, rfl, hp1, T.cl_State, T.na_State_bonds, rfl, db, bv, rfl, .inl (s1 _ _ hbv), fun O nO => ?_⟩
      have s2 := same_new (o := .dK bv) s1 nO
      have hO : (upd H1 O (.dK bv)) O = some (.dK bv) := upd_same
      have hq2 := kp (o' := .dK bv) nO hq
      have fO := s1.free nO
      generalize upd H1 O (.dK bv) = H2 at s2 hO hq2
      have bl : (σ.bd s).length ≤ 400 := by have := nd_le bdnd bdU; omega
      refine ⟨_, rfl, q, _, rfl, .inl (SqT.of hq2), _, rfl, by rw [List.length_append, List.length_map]; exact small1000 (show (σ.bd s).length ≤ 1000 by omega), fun u nu => ?_⟩
      have el : (σ.bd s).map V.int ++ [V.int h] = (σ.bd s ++ [h]).map V.int := by rw [List.map_append]; rfl
      rw [el]
      have s3 := same_new (o := .tup ((σ.bd s ++ [h]).map V.int)) s2 nu
      have hu : (upd H2 u (.tup ((σ.bd s ++ [h]).map V.int))) u = some (.tup ((σ.bd s ++ [h]).map V.int)) := upd_same
      have hO3 := kp (o' := .tup ((σ.bd s ++ [h]).map V.int)) nu hO
      generalize upd H2 u (.tup ((σ.bd s ++ [h]).map V.int)) = H3 at s3 hu hO3
      refine ⟨_, rfl, _, rfl, O, _, rfl, DPut.k (k := Sum.inl s) hO3 (small1000 (by have := len_bond bnd hB; omega)), ?_⟩
      have s4 : Same H (upd H3 O (.dK (putK bv (Sum.inl s) (.ref u)))) := fun x o z => by rw [upd_ne (ne_of_none z fO)]; exact s3 x o z
      have hO4 : (upd H3 O (.dK (putK bv (Sum.inl s) (.ref u)))) O = some (.dK (putK bv (Sum.inl s) (.ref u))) := upd_same
      have uO : u ≠ O := fun z => by rw [z, hO3] at hu; cases hu
      have hu4 : (upd H3 O (.dK (putK bv (Sum.inl s) (.ref u)))) u = some (.tup ((σ.bd s ++ [h]).map V.int)) := by rw [upd_ne uO]; exact hu
      generalize upd H3 O (.dK (putK bv (Sum.inl s) (.ref u))) = H4 at s4 hO4 hu4
      have hp4 := s4 _ _ hp
      refine ⟨_, rfl, p, T.c_State, dx, _, _, rfl, hp4, T.cl_State, T.na_State_store, rfl, _, rfl, p, T.c_State, dx, _, _, rfl, hp4, T.cl_State, T.na_State_over, rfl, _, rfl, fun x dx' nx ndx ne => mk_state nx ndx fun H5 s5 hx => ⟨rfl, ?_⟩⟩
      have s05 := s4.trans s5
      have nds : (σ.bd s ++ [h]).Nodup := List.nodup_append.mpr ⟨bdnd, List.nodup_cons.mpr ⟨List.not_mem_nil, List.nodup_nil⟩, fun a ha b hb' e => by rw [List.mem_singleton.mp hb'] at e; exact hb (e ▸ ha)⟩
      have pu := bond_put (σ' := { σ with bd := fun t => if t = s then σ.bd s ++ [h] else σ.bd t }) bnd hB s05 hs (s5 _ _ hu4) nds (fun y hy => (List.mem_append.mp hy).elim (bdU y) fun z => by rw [List.mem_singleton.mp z]; exact hh) (if_pos rfl) fun y ny => if_neg ny
      obtain ⟨sv, hsv, snd, hSt⟩ := D1.ex
      obtain ⟨ov, hov, ond, hOv⟩ := D2.ex
      exact kk H5 x s05 ⟨dx', dsx, dv, O, hx, n1, fun z => (by rw [← z, hsv] at fO; cases fO), fun z => (by rw [← z, hov] at fO; cases fO), ⟨sv, s05 _ _ hsv, snd, store_congr hSt (SameT.of s05) fun _ => rfl⟩, ⟨ov, s05 _ _ hov, ond, over_congr hOv fun _ => rfl⟩, ⟨_, s5 _ _ hO4, pu.1, pu.2⟩⟩
def spWItem (CS CI : Addr) : Sp := fun vs H Q _ => ∃ (p q : Addr) (n : Str) (i : MIR.It) (U : List Int) (N : List Str) (σ : MIR.S), vs = [.ref p, .str n, .ref q] ∧ StAt CS CI U N H p σ ∧ n ∈ N ∧ N.length ≤ 400 ∧ ItAt CI H q i ∧ WfI U i ∧ ∀ (H' : Hp) (q : Addr), Same H H' → StAt CS CI U N H' q (itS σ n i) → Q (.ref q) H'
theorem ok_with_item : FnOk PP w K mg base CX0 3 T.f_with_item T.d_with_item ["state", "name", "item"] (spWItem T.c_State T.c_Item) := by
  refine T.F_with_item.ok sc_with_item (fun vs H Q E h => ?_) (fun cdv A outer s H vs Q E hr h => ?_)
  · obtain ⟨p, q, n, i, U, N, σ, rfl, _⟩ := h
    rfl
  · obtain ⟨p, q, n, i, U, N, σ, rfl, st, hn, hN, hi, wf, kk⟩ := h
    refine ⟨_, pss_cons (ps_set (i := 3) sc_with_item.nd rfl (.inl rfl) (pe_callTy call_dictD (by rfl) T.n_dict (by decide +kernel) (pa_cons (pe_fld (pv 0) rfl) pa_nil)))
 (pss_cons (ps_dput (hu_of hr) (pv 3) (pv 1) (pv 2) rfl)
 (pss_one (ps_ret (pe_make T.mk_State (ok_State_init T) (hr.mono (by decide)) (by rfl) T.g_State (b_State_init T) .nil pass0 (pa_cons (pv 3) (pa_cons (pe_fld (pv 0) rfl) (pa_cons (pe_fld (pv 0) rfl) pa_nil))))))), ?_⟩
    obtain ⟨dx, dsx, dv, db, hp, n1, n2, n3, D1, D2, D3⟩ := st.ex
    obtain ⟨sv, hsv, snd, hSt⟩ := D1.ex
    obtain ⟨ov, hov, ond, hOv⟩ := D2.ex
    obtain ⟨bv, hbv, bnd, hB⟩ := D3.ex
    refine ⟨_, rfl, p, T.c_State, dx, _, _, rfl, hp, T.cl_State, T.na_State_store, rfl, dsx, sv, rfl, .inl hsv, fun O nO => ?_⟩
    refine ⟨_, rfl, _, rfl, _, rfl, O, _, rfl, DPut.k (k := Sum.inr n) upd_same (small1000 (by have := len_store snd hSt; omega)), ?_⟩
    have s2 : Same H (upd (upd H O (.dK sv)) O (.dK (putK sv (Sum.inr n) (.ref q)))) := fun x o z => by rw [upd_ne (ne_of_none z nO), upd_ne (ne_of_none z nO)]; exact z
    have hO2 : (upd (upd H O (.dK sv)) O (.dK (putK sv (Sum.inr n) (.ref q)))) O = some (.dK (putK sv (Sum.inr n) (.ref q))) := upd_same
    generalize upd (upd H O (.dK sv)) O (.dK (putK sv (Sum.inr n) (.ref q))) = H2 at s2 hO2
    have hp2 := s2 _ _ hp
    refine ⟨_, rfl, _, rfl, p, T.c_State, dx, _, _, rfl, hp2, T.cl_State, T.na_State_over, rfl, _, rfl, p, T.c_State, dx, _, _, rfl, hp2, T.cl_State, T.na_State_bonds, rfl, fun x dx' nx ndx ne => mk_state nx ndx fun H5 s5 hx => ⟨rfl, ?_⟩⟩
    have s05 := s2.trans s5
    have pu := store_put (σ' := itS σ n i) snd hSt (SameT.of s05) hn (hi.same s05) wf (if_pos rfl) fun y ny => if_neg ny
    exact kk H5 x s05 ⟨dx', O, dv, db, hx, fun z => (by rw [z, hov] at nO; cases nO), fun z => (by rw [z, hbv] at nO; cases nO), n3, ⟨_, s5 _ _ hO2, pu.1, pu.2⟩, ⟨ov, s05 _ _ hov, ond, over_congr hOv fun _ => rfl⟩, ⟨bv, s05 _ _ hbv, bnd, bond_congr hB s05 fun _ => rfl⟩⟩
def spWReader (CS CI : Addr) : Sp := fun vs H Q _ => ∃ (p : Addr) (n : Str) (s : Int) (U : List Int) (N : List Str) (σ : MIR.S), vs = [.ref p, .str n, .int s] ∧ StAt CS CI U N H p σ ∧ n ∈ N ∧ N.length ≤ 400 ∧ ∀ (H' : Hp) (q : Addr), Same H H' → StAt CS CI U N H' q (readS σ n s) → Q (.ref q) H'
theorem ok_with_reader : FnOk PP w K mg base CX0 4 T.f_with_reader T.d_with_reader ["state", "name", "stamp"] (spWReader T.c_State T.c_Item) := by
  refine T.F_with_reader.ok sc_with_reader (fun vs H Q E h => ?_) (fun cdv A outer s H vs Q E hr h => ?_)
  · obtain ⟨p, n, s, U, N, σ, rfl, _⟩ := h
    rfl
  · obtain ⟨p, n, s, U, N, σ, rfl, st, hn, hN, kk⟩ := h
    refine ⟨_, pss_cons (ps_set (i := 3) sc_with_reader.nd rfl (.inl rfl) (pe_call (ok_item_of T) (hr.mono (by decide)) (by rfl) T.g_item_of T.F_item_of.kp (b_item_of T) .nil pass0 (pa_cons (pv 0) (pa_cons (pv 1) pa_nil))))
 (pss_cons (ps_if (pt_cmpR op_le (pv 2) (pe_fld (pv 3) rfl) (nomark _))
 (pss_one (ps_ret (pv 0)))
 pss_nil)
 (pss_one (ps_ret (pe_call (ok_with_item T) (hr.mono (by decide)) (by rfl) T.g_with_item T.F_with_item.kp (b_with_item T) .nil pass0 (pa_cons (pv 0) (pa_cons (pv 1) (pa_cons (pe_make T.mk_Item (ok_Item_init T) (hr.mono (by decide)) (by rfl) T.g_Item (b_Item_init T) .nil pass0 (pa_cons (pe_fld (pv 3) rfl) (pa_cons (pe_fld (pv 3) rfl) (pa_cons (pe_fld (pv 3) rfl) (pa_cons (pv 2) pa_nil))))) pa_nil))))))), ?_⟩
    refine ⟨_, rfl, _, rfl, p, n, U, N, σ, rfl, st, fun H1 q s1 hi wf => ?_⟩
    obtain ⟨dx, ka, hq, hk⟩ := hi
    refine ⟨_, rfl, _, rfl, q, T.c_Item, dx, _, _, rfl, hq, T.cl_Item, T.na_Item_reader, rfl, _, _, rfl, rfl, _, rfl, ?_⟩
    by_cases c : s ≤ (σ.it n).rd
    · rw [decide_eq_true c]
      have e0 : readS σ n s = σ := if_pos c
      rw [e0] at kk
      exact iteT ⟨_, rfl, kk H1 p s1 (st.same s1)⟩
    · rw [decide_eq_false c]
      have e0 : readS σ n s = itS σ n { σ.it n with rd := s } := if_neg c
      rw [e0] at kk
      refine iteF ⟨_, rfl, _, rfl, _, rfl, q, T.c_Item, dx, _, _, rfl, hq, T.cl_Item, T.na_Item_kept, rfl, _, rfl, q, T.c_Item, dx, _, _, rfl, hq, T.cl_Item, T.na_Item_holder, rfl, _, rfl, q, T.c_Item, dx, _, _, rfl, hq, T.cl_Item, T.na_Item_value, rfl, _, rfl, fun x dx' nx ndx ne => mk_item nx ndx fun H5 s5 hx => ⟨rfl, ?_⟩⟩
      exact ⟨p, x, n, { σ.it n with rd := s }, U, N, σ, rfl, st.same (s1.trans s5), hn, hN, ⟨dx', ka, hx, hk.same s5⟩, { ne := wf.ne, le := wf.le, ho := wf.ho }, fun H6 r s6 hst => kk H6 r ((s1.trans s5).trans s6) hst⟩
end
end K16

namespace K16
open PySem L2 SI CM BK OWN
section
variable {w : World} {K : PySem.W.Frag} {mg : Str → Option Value} {base : Heap} (T : Txt w K mg)
/-- book[entry] -/
def spGet (C B : Addr) : Sp := fun vs H Q E => ∃ b dx d f e k v, vs = [.ref b, v] ∧ Bk C H b dx d f e k ∧ flatV v = true ∧ (∀ x, v = .str x → x ∈ ENT → Q (.str (f x)) H) ∧ (¬ isEnt v → ∀ x, H x = none → E (.ref B) (some x) (upd H x (.xd [(("entry" : Str), v)])))
theorem ok_get : FnOk PP w K mg base (L2.CX PP w) 4 T.f_Book_getitem T.d_Book_getitem ["self", "entry"] (spGet T.c_Book T.c_BadEntry) := by
  refine T.F_Book_getitem.okX sc_Book_getitem (fun vs H Q E h => ?_) (fun cdv A outer s H vs Q E hr h => ?_)
  · obtain ⟨b, dx, d, f, e, k, v, rfl, _⟩ := h
    rfl
  · obtain ⟨b, dx, d, f, e, k, v, rfl, B, fv, kT, kF⟩ := h
    refine ⟨_, pss_cons (ps_if (pt_cmpR op_notIn_seq (pv 1) (pe_glob (v := .ref T.o_ENTRIES) (by rfl) T.g_ENTRIES rfl) rfl)
 (pss_one (ps_raise rfl (takes_of rfl rfl rfl rfl) (pmk_oex T.oex_BadEntry T.i_BadEntry_init T.t_BadEntry_init (ok_BadEntry T) (hr.mono (by decide)) (b_BadEntry_init T) .nil pass0 (by rfl) T.g_BadEntry (pa_cons (pv 1) pa_nil))))
 pss_nil)
 (pss_one (ps_ret (pe_dget (hu_of hr) (pe_fld (pv 0) rfl) (pv 1) (fun _ _ => rfl)))), ?_⟩
    refine ⟨_, rfl, T.o_ENTRIES, ENT.map V.str, rfl, .inr (T.q_ENTRIES H), fv, flat_strs _, _, rfl, ?_⟩
    by_cases hE : isEnt v
    · obtain ⟨x, rfl, hx⟩ := hE
      rw [inV_str, decide_eq_true hx]
      refine iteF ⟨_, rfl, b, T.c_Book, dx, _, _, rfl, B.ins, T.cl_Book, T.na_Book__answers, rfl, _, rfl, d, .str (f x), rfl, ?_, kT x rfl hx⟩
      have g := DGet.k (k := Sum.inr x) B.tbl
      rw [val_in (g := V.str) hx] at g
      exact g
    · rw [inV_not fun x h1 h2 => hE ⟨x, h1, h2⟩]
      exact iteT ⟨_, rfl, rz1 (kF hE)⟩
end
end K16

namespace K16
open PySem L2 SI CM BK OWN MIR StX TX TL
section
variable {w : World} {K : PySem.W.Frag} {mg : Str → Option Value} {base : Heap} (T : Txt w K mg)
theorem place_spots (s x : Int) (h : Option Int) : placeM s x h ∈ SPOTS := by
  unfold placeM
  cases h with
  | none => show (if x < s then ("free" : Str) else "late") ∈ SPOTS; split <;> decide +kernel
  | some h => show (if h = s then ("own" : Str) else if s < x then "under" else if s < h then "below" else "above") ∈ SPOTS; exact (by by_cases a : h = s; (rw [if_pos a]; decide +kernel); rw [if_neg a]; by_cases c : s < x; (rw [if_pos c]; decide +kernel); rw [if_neg c]; by_cases g : s < h; (rw [if_pos g]; decide +kernel); rw [if_neg g]; decide +kernel)
theorem em_eq : ∀ k ∈ KINDS, ∀ sp ∈ SPOTS, ∀ p : Bool, entM k sp p = metM k sp p := by
  have h : ∀ k ∈ KINDS, ∀ sp ∈ SPOTS, ∀ p ∈ [true, false], entM k sp p = metM k sp p := by decide +kernel
  intro k hk sp hs p
  exact h k hk sp hs p (by cases p <;> simp)
def spotOf (σ : MIR.S) (s : Int) (n : Str) : Str := placeM s (lastV (σ.it n)).1 (hOf (σ.it n))
def entOf (σ : MIR.S) (kd : Str) (s : Int) (n : Str) : Option Str := metM kd (spotOf σ s n) (decide ((σ.it n).rd > s))
def metL (e : Option Str) : List Str := match e with | none => [] | some e => [e]
def ansL (B : Bkm) (kd sp : Str) (e : Option Str) : Str := match e with | none => MIR.fixM kd sp | some e => B.f e
noncomputable def askR (B : Bkm) (σ : MIR.S) (kd : Str) (s : Int) (n : Str) (v : Int) (met : List Str) (ans : Str) : MIR.S × Out :=
  if ans = "wait" then (σ, ⟨"wait", met, .tup [hInt (σ.it n)], []⟩)
  else if ans = "wound" then (fallS σ (fal σ (hInt (σ.it n))), ⟨"wound", met, .non, fal σ (hInt (σ.it n))⟩)
  else if ans = "abort" ∨ (ans = "old" ∧ oldM (σ.it n) s = []) then (fallS σ (fal σ s), ⟨"abort", met, .non, fal σ s⟩)
  else
    if kd = "read" then (readS (if bindM B.ends (spotOf σ s n) ans = true then bondS σ s (hInt (σ.it n)) else σ) n s, ⟨"read", met, valM (σ.it n) s ans, []⟩)
    else if ans = "skip" then (if bindM B.ends (spotOf σ s n) ans = true then bondS σ s (hInt (σ.it n)) else σ, ⟨"skip", met, .non, []⟩)
    else (itS (if bindM B.ends (spotOf σ s n) ans = true then bondS σ s (hInt (σ.it n)) else σ) n { σ.it n with opn := some (s, v) }, ⟨"put", met, .non, []⟩)
theorem ask_R (B : Bkm) (σ : MIR.S) (kd : Str) (s : Int) (n : Str) (v : Int) : askM B σ kd s n v = askR B σ kd s n v (metL (entOf σ kd s n)) (ansL B kd (spotOf σ s n) (entOf σ kd s n)) := rfl
/-- where nobody holds the item -/
theorem no_hold {f : Str → Str} (hf : ∀ x ∈ ENT, f x ∈ chs x) (B : Bkm) (hB : B.f = f) {kd : Str} (hk : kd ∈ KINDS) {s x : Int} (p : Bool) :
    ansL B kd (placeM s x none) (metM kd (placeM s x none) p) ∈ (["put", "abort", "last", "old", "skip"] : List Str) ∧ placeM s x none ∈ (["free", "late"] : List Str) := by
  have hs : placeM s x none ∈ (["free", "late"] : List Str) := by
    show (if x < s then ("free" : Str) else "late") ∈ _
    split <;> decide +kernel
  refine ⟨?_, hs⟩
  have h1 : ∀ k ∈ KINDS, ∀ sp ∈ (["free", "late"] : List Str), ∀ p ∈ [true, false], (match metM k sp p with | none => decide (MIR.fixM k sp ∈ (["put", "abort", "last", "old", "skip"] : List Str)) | some e => decide (e ∈ ENT) && (chs e).all fun a => decide (a ∈ (["put", "abort", "last", "old", "skip"] : List Str))) = true := by decide +kernel
  have h2 := h1 kd hk _ hs p (by cases p <;> simp)
  unfold ansL
  cases e : metM kd (placeM s x none) p with
  | none => rw [e] at h2; exact of_decide_eq_true h2
  | some y =>
    rw [e] at h2
    have h3 : (decide (y ∈ ENT) && (chs y).all fun a => decide (a ∈ (["put", "abort", "last", "old", "skip"] : List Str))) = true := h2
    rw [Bool.and_eq_true] at h3
    have h4 := List.all_eq_true.mp h3.2 (f y) (hf y (of_decide_eq_true h3.1))
    show B.f y ∈ _
    rw [hB]
    exact of_decide_eq_true h4
theorem ent_ENT {kd : Str} (hk : kd ∈ KINDS) {sp : Str} (hs : sp ∈ SPOTS) {p : Bool} {e : Str} (h : metM kd sp p = some e) : e ∈ ENT := ent_in kd hk sp hs p e (by rw [em_eq kd hk sp hs p]; exact h)
def FOk (U : List Int) (σ : MIR.S) (s h : Int) (o : Out) : Prop := (∀ t ∈ o.fallen, t ∈ U) ∧ (o.word ≠ "wound" → o.fallen = [] ∨ IsF σ s o.fallen) ∧ (o.word = "wound" → IsF σ h o.fallen)
theorem fok_nil {U : List Int} {σ : MIR.S} {s h : Int} {w : Str} {m : List Str} {v : OV} (hw : w ≠ "wound") : FOk U σ s h ⟨w, m, v, []⟩ := ⟨fun t h => (by cases h), fun _ => .inl rfl, fun z => absurd z hw⟩
/-- a step that reads or writes -/
def ReqAt (H : Hp) (st : Addr) (kd : Str) (s : Int) (n : Str) : Prop := H st = some (.tup [.str kd, .int s, .str n])
def spAsked (CB CS CI : Addr) : Sp := fun vs H Q _ => ∃ (b dxb d : Addr) (f : Str → Str) (e : Str) (k : Nat) (p st : Addr) (v : V) (z : Int) (kd : Str) (s : Int) (n : Str) (U : List Int) (N : List Str) (σ : MIR.S), vs = [.ref b, .ref p, .ref st, v] ∧
  Bk CB H b dxb d f e (k : Int) ∧ (∀ x ∈ ENT, f x ∈ chs x) ∧ ReqAt H st kd s n ∧ kd ∈ KINDS ∧ (kd = "write" → v = .int z) ∧ StAt CS CI U N H p σ ∧ s ∈ U ∧ n ∈ N ∧ U.length ≤ 400 ∧ N.length ≤ 400 ∧
  ∀ (H' : Hp) (q : Addr), Same H H' → PairAt CS CI U N H' q (askM ⟨f, e, k⟩ σ kd s n z) → FOk U σ s (hInt (σ.it n)) (askM ⟨f, e, k⟩ σ kd s n z).2 → Q (.ref q) H'
theorem ok_asked : FnOk PP w K mg base CX0 8 T.f_asked T.d_asked ["book", "state", "step", "value"] (spAsked T.c_Book T.c_State T.c_Item) := by
  refine T.F_asked.ok sc_asked (fun vs H Q E h => ?_) (fun cdv A outer s H vs Q E hr h => ?_)
  · obtain ⟨b, dxb, d, f, e, k, p, st, v, z, kd, s, n, U, N, σ, rfl, _⟩ := h
    rfl
  · obtain ⟨b, dxb, d, f, e, k, p, st, v, z, kd, s, n, U, N, σ, rfl, B, hf, hst, hkd, hv, hσ, hs, hn, hU, hN, kk⟩ := h
    refine ⟨_, pss_cons (ps_asg (pv 2) (pg_tup rfl (pgs_cons (pg_name (i := 4) sc_asked.nd rfl (.inl rfl)) (pgs_cons (pg_name (i := 5) sc_asked.nd rfl (.inl rfl)) (pgs_cons (pg_name (i := 6) sc_asked.nd rfl (.inl rfl)) pgs_nil)))))
 (pss_cons (ps_set (i := 7) sc_asked.nd rfl (.inl rfl) (pe_call (ok_item_of T) (hr.mono (by decide)) (by rfl) T.g_item_of T.F_item_of.kp (b_item_of T) .nil pass0 (pa_cons (pv 1) (pa_cons (pv 6) pa_nil))))
 (pss_cons (ps_set (i := 8) sc_asked.nd rfl (.inl rfl) (pe_call (ok_place T) (hr.mono (by decide)) (by rfl) T.g_place T.F_place.kp (b_place T) .nil pass0 (pa_cons (pv 5) (pa_cons (pe_ix ix_tup (pe_ix ix_tup (pe_fld (pv 7) rfl) (pe_un un_neg pe_int) (fun _ _ => rfl)) pe_int (fun _ _ => rfl)) (pa_cons (pe_fld (pv 7) rfl) pa_nil)))))
 (pss_cons (ps_set (i := 9) sc_asked.nd rfl (.inl rfl) (pe_call (ok_entry_met T) (hr.mono (by decide)) (by rfl) T.g_entry_met T.F_entry_met.kp (b_entry_met T) .nil pass0 (pa_cons (pv 4) (pa_cons (pv 8) (pa_cons (pe_cmpR op_gt (pe_fld (pv 7) rfl) (pv 5) (nomark _)) pa_nil)))))
 (C8.pss_cut (ps_if (pt_cmpR op_isN (pv 9) pe_non (nomark _))
 (pss_one (ps_par (i := 10) (j := 11) (by rfl) sc_asked.nd rfl rfl (by decide) rfl rfl (pa_cons (pe_tup pa_nil) (pa_cons (pe_call (ok_fixed T) (hr.mono (by decide)) (by rfl) T.g_fixed_answer T.F_fixed_answer.kp (b_fixed_answer T) .nil pass0 (pa_cons (pv 4) (pa_cons (pv 8) pa_nil))) pa_nil)) (by rfl)))
 (pss_one (ps_par (i := 10) (j := 11) (by rfl) sc_asked.nd rfl rfl (by decide) rfl rfl (pa_cons (pe_tup (pa_cons (pv 9) pa_nil)) (pa_cons (pe_ixO T.m_Book_getitem T.fi_Book_getitem (ownF (ok_get T) (b_Book_getitem T)) (hr.mono (by decide)) (fun σ => passAll passL σ) (pv 0) (pv 9) (fun _ _ => rfl)) pa_nil)) (by rfl))))
 (pss_cons (ps_if (pt_cmpR op_eq (pv 11) pe_str (nomark _))
 (pss_one (ps_ret (pe_tup (pa_cons (pv 1) (pa_cons (pe_tup (pa_cons pe_str (pa_cons (pv 10) (pa_cons (pe_tup (pa_cons (pe_fld (pv 7) rfl) pa_nil)) (pa_cons (pe_tup pa_nil) pa_nil))))) pa_nil)))))
 pss_nil)
 (pss_cons (ps_if (pt_cmpR op_eq (pv 11) pe_str (nomark _))
 (pss_cons (ps_asg (pe_call (ok_without T) (hr.mono (by decide)) (by rfl) T.g_without T.F_without.kp (b_without T) .nil pass0 (pa_cons (pv 1) (pa_cons (pe_fld (pv 7) rfl) pa_nil))) (pg_tup rfl (pgs_cons (pg_name (i := 12) sc_asked.nd rfl (.inl rfl)) (pgs_cons (pg_name (i := 13) sc_asked.nd rfl (.inl rfl)) pgs_nil))))
 (pss_one (ps_ret (pe_tup (pa_cons (pv 12) (pa_cons (pe_tup (pa_cons pe_str (pa_cons (pv 10) (pa_cons pe_non (pa_cons (pv 13) pa_nil))))) pa_nil))))))
 pss_nil)
 (C8.pss_cut (ps_if (PW.pt (pw_or (pt_cmpR op_eq (pv 11) pe_str (nomark _)) (pw_or1 (PW.pt (pw_and (pt_cmpR op_eq (pv 11) pe_str (nomark _)) (pw_and1 (pt_not (pt_truth (pe_call (ok_older_values T) (hr.mono (by decide)) (by rfl) T.g_older_values T.F_older_values.kp (b_older_values T) .nil pass0 (pa_cons (pv 7) (pa_cons (pv 5) pa_nil))) (by intro _; rfl)))))))))
 (pss_one (ps_ret (pe_call (ok_aborted T) (hr.mono (by decide)) (by rfl) T.g_aborted T.F_aborted.kp (b_aborted T) .nil pass0 (pa_cons (pv 1) (pa_cons (pv 5) (pa_cons (pv 10) pa_nil))))))
 pss_nil)
 (C8.pss_cut (ps_if (pt_val (pe_call (ok_binds T) (hr.mono (by decide)) (by rfl) T.g_binds T.F_binds.kp (b_binds T) .nil pass0 (pa_cons (pe_prop (pv 0) T.cl_Book T.p_Book_ends (ok_ends T) (hr.mono (by decide)) (b_Book_ends T) .nil pass0 rfl) (pa_cons (pv 8) (pa_cons (pv 11) pa_nil)))))
 (pss_one (ps_set (i := 1) sc_asked.nd rfl (.inl rfl) (pe_call (ok_with_bond T) (hr.mono (by decide)) (by rfl) T.g_with_bond T.F_with_bond.kp (b_with_bond T) .nil pass0 (pa_cons (pv 1) (pa_cons (pv 5) (pa_cons (pe_fld (pv 7) rfl) pa_nil))))))
 pss_nil)
 (pss_cons (ps_if (pt_cmpR op_eq (pv 4) pe_str (nomark _))
 (pss_one (ps_ret (pe_tup (pa_cons (pe_call (ok_with_reader T) (hr.mono (by decide)) (by rfl) T.g_with_reader T.F_with_reader.kp (b_with_reader T) .nil pass0 (pa_cons (pv 1) (pa_cons (pv 6) (pa_cons (pv 5) pa_nil)))) (pa_cons (pe_tup (pa_cons pe_str (pa_cons (pv 10) (pa_cons (pe_call (ok_value_read T) (hr.mono (by decide)) (by rfl) T.g_value_read T.F_value_read.kp (b_value_read T) .nil pass0 (pa_cons (pv 7) (pa_cons (pv 5) (pa_cons (pv 11) pa_nil)))) (pa_cons (pe_tup pa_nil) pa_nil))))) pa_nil)))))
 pss_nil)
 (pss_cons (ps_if (pt_cmpR op_eq (pv 11) pe_str (nomark _))
 (pss_one (ps_ret (pe_tup (pa_cons (pv 1) (pa_cons (pe_tup (pa_cons pe_str (pa_cons (pv 10) (pa_cons pe_non (pa_cons (pe_tup pa_nil) pa_nil))))) pa_nil)))))
 pss_nil)
 (pss_cons (ps_set (i := 14) sc_asked.nd rfl (.inl rfl) (pe_make T.mk_Item (ok_Item_init T) (hr.mono (by decide)) (by rfl) T.g_Item (b_Item_init T) .nil pass0 (pa_cons (pe_fld (pv 7) rfl) (pa_cons (pv 5) (pa_cons (pv 3) (pa_cons (pe_fld (pv 7) rfl) pa_nil))))))
 (pss_one (ps_ret (pe_tup (pa_cons (pe_call (ok_with_item T) (hr.mono (by decide)) (by rfl) T.g_with_item T.F_with_item.kp (b_with_item T) .nil pass0 (pa_cons (pv 1) (pa_cons (pv 6) (pa_cons (pv 14) pa_nil)))) (pa_cons (pe_tup (pa_cons pe_str (pa_cons (pv 10) (pa_cons pe_non (pa_cons (pe_tup pa_nil) pa_nil))))) pa_nil)))))))))))))))), ?_⟩
    have zero : 0 ≤ sizeLine := by decide
    have one : 1 ≤ sizeLine := by decide
    have two : 2 ≤ sizeLine := by decide
    have four : 4 ≤ sizeLine := by decide
    have hst : H st = some (.tup [.str kd, .int s, .str n]) := hst
    rw [ask_R] at kk
    refine ⟨_, rfl, st, _, rfl, SqT.of hst, rfl, _, _, rfl, _, _, rfl, _, _, rfl, rfl, ?_⟩
    refine ⟨_, rfl, _, rfl, p, n, U, N, σ, rfl, hσ, fun H1 q s1 hi wf => ?_⟩
    have hi' := hi
    obtain ⟨dx, ka, hq, ps, hka, hps⟩ := hi
    obtain ⟨l, y, el, hy⟩ := hps.last (d := (0, 0)) wf.ne
    have hy : H1 y = some (.tup [.int (lastV (σ.it n)).1, .int (lastV (σ.it n)).2]) := hy
    have hlast : atI (ps.map V.ref) (-1) = some (.ref y) := by rw [el, List.map_append]; exact atI_last _ _
    refine ⟨_, rfl, _, rfl, q, T.c_Item, dx, _, _, rfl, hq, T.cl_Item, T.na_Item_kept, rfl, _, rfl, ka, _, _, .ref y, rfl, rfl, SqT.of hka, hlast, y, _, _, .int (lastV (σ.it n)).1, rfl, rfl, SqT.of hy, rfl, _, rfl, q, T.c_Item, dx, _, _, rfl, hq, T.cl_Item, T.na_Item_holder, rfl, s, (lastV (σ.it n)).1, hOf (σ.it n), by rw [hV_o]; rfl, ?_⟩
    have hsp : placeM s (lastV (σ.it n)).1 (hOf (σ.it n)) ∈ SPOTS := place_spots _ _ _
    refine ⟨_, rfl, _, rfl, _, rfl, q, T.c_Item, dx, _, _, rfl, hq, T.cl_Item, T.na_Item_reader, rfl, _, rfl, _, _, rfl, rfl, kd, _, _, rfl, hkd, hsp, fun H2 s2 => ?_⟩
    rw [em_eq kd hkd _ hsp]
    have eent : metM kd (placeM s (lastV (σ.it n)).1 (hOf (σ.it n))) (decide ((σ.it n).rd > s)) = entOf σ kd s n := rfl
    rw [eent]
    have s12 := s1.trans s2
    generalize hen : entOf σ kd s n = en at kk eent
    have hspot : placeM s (lastV (σ.it n)).1 (hOf (σ.it n)) = spotOf σ s n := rfl
    rw [hspot] at hsp ⊢
    generalize han : ansL ⟨f, e, k⟩ kd (spotOf σ s n) en = an at kk
    refine ⟨fun τ H' => ∃ m, τ = [some (.ref b), some (.ref p), some (.ref st), some v, some (.str kd), some (.int s), some (.str n), some (.ref q), some (.str (spotOf σ s n)), some (oV en), some (.ref m), some (.str an), none, none, none] ∧ H' m = some (.tup ((metL en).map V.str)) ∧ Same H2 H', ?_, ?_⟩
    · cases en with
      | none =>
        refine ⟨_, rfl, rfl, _, rfl, iteT ⟨zero, fun t nt => ⟨_, rfl, _, rfl, kd, _, rfl, _, _, rfl, ?_⟩⟩⟩
        rw [← han]
        exact ⟨t, rfl, upd_same, same_new (Same.refl H2) nt⟩
      | some x =>
        have hx := ent_ENT hkd hsp hen
        refine ⟨_, rfl, rfl, _, rfl, iteF ⟨_, rfl, one, fun t nt => ?_⟩⟩
        have B3 := B.same (same_new (o := .tup [.str x]) s12 nt)
        refine ⟨_, rfl, _, rfl, b, dxb, _, rfl, B3.ins, b, dxb, d, f, e, k, .str x, rfl, B3, rfl, fun x' hx' _ => ?_, fun hn => absurd ⟨x, rfl, hx⟩ hn⟩
        cases hx'
        rw [← han]
        exact ⟨_, _, rfl, ⟨t, rfl, upd_same, same_new (Same.refl H2) nt⟩⟩
    rintro τ H3 ⟨m, rfl, hm, s23⟩
    have s3 := s12.trans s23
    have s13 := s2.trans s23
    have hq3 := s13 _ _ hq
    have hi3 := hi'.same s13
    have hσ3 := hσ.same s3
    have B3 := B.same s3
    have nohold : hOf (σ.it n) = none → an ∈ (["put", "abort", "last", "old", "skip"] : List Str) ∧ spotOf σ s n ∈ (["free", "late"] : List Str) := fun h0 => by
      have := no_hold hf ⟨f, e, k⟩ rfl hkd (s := s) (x := (lastV (σ.it n)).1) (decide ((σ.it n).rd > s))
      rw [← h0, hspot, show metM kd (spotOf σ s n) (decide ((σ.it n).rd > s)) = en from hen, han] at this
      exact this
    have holds : an ∉ (["put", "abort", "last", "old", "skip"] : List Str) → ∃ h z, (σ.it n).opn = some (h, z) := fun c => by
      cases ho : (σ.it n).opn with
      | none => exact absurd (nohold (by unfold hOf; rw [ho]; rfl)).1 c
      | some hz => exact ⟨hz.1, hz.2, rfl⟩
    refine ⟨_, rfl, rfl, _, rfl, ?_⟩
    rw [ds]
    by_cases c1 : an = "wait"
    · rw [decide_eq_true c1]
      obtain ⟨h, zz, ho⟩ := holds (by rw [c1]; decide +kernel)
      have e1 : hV (σ.it n) = .int (hInt (σ.it n)) := by unfold hV hInt; rw [ho]
      have er : askR ⟨f, e, k⟩ σ kd s n z (metL en) an = (σ, ⟨"wait", metL en, .tup [hInt (σ.it n)], []⟩) := if_pos c1
      rw [er] at kk
      refine iteT ⟨_, rfl, _, rfl, _, rfl, q, T.c_Item, dx, _, _, rfl, hq3, T.cl_Item, T.na_Item_holder, rfl, ?_⟩
      rw [e1]
      refine ⟨one, fun t nt => ⟨zero, fun u nu => ⟨four, fun o no => ⟨two, fun r nr => ?_⟩⟩⟩⟩
      have t1 := same_new (o := .tup [.int (hInt (σ.it n))]) (Same.refl H3) nt
      have t2 := same_new (o := .tup []) t1 nu
      have t3 := same_new (o := .tup [.str "wait", .ref m, .ref t, .ref u]) t2 no
      have t4 := same_new (o := .tup [.ref p, .ref o]) t3 nr
      exact kk _ r (s3.trans t4) ⟨p, o, upd_same, hσ.same (s3.trans t4), ⟨m, .ref t, u, kp nr upd_same, t4 _ _ hm, ⟨t, rfl, kp nr (kp no (kp nu upd_same))⟩, kp nr (kp no upd_same)⟩⟩ (fok_nil (by decide +kernel))
    rw [decide_eq_false c1]
    refine iteF ⟨_, rfl, rfl, _, rfl, ?_⟩
    rw [ds]
    by_cases c2 : an = "wound"
    · rw [decide_eq_true c2]
      obtain ⟨h, zz, ho⟩ := holds (by rw [c2]; decide +kernel)
      have e1 : hV (σ.it n) = .int (hInt (σ.it n)) := by unfold hV hInt; rw [ho]
      have hU' : hInt (σ.it n) ∈ U := by unfold hInt; rw [ho]; exact wf.ho h zz ho
      have er : askR ⟨f, e, k⟩ σ kd s n z (metL en) an = (fallS σ (fal σ (hInt (σ.it n))), ⟨"wound", metL en, .non, fal σ (hInt (σ.it n))⟩) := (if_neg c1).trans (if_pos c2)
      rw [er] at kk
      refine iteT ⟨_, rfl, _, rfl, q, T.c_Item, dx, _, _, rfl, hq3, T.cl_Item, T.na_Item_holder, rfl, p, hInt (σ.it n), U, N, σ, by rw [e1]; rfl, hσ3, hU', hU, hN, fun H4 q4 s4 ⟨a4, f4, hq4, hst4, hf4⟩ hF => ?_⟩
      refine ⟨q4, _, rfl, SqT.of hq4, rfl, _, _, rfl, _, _, rfl, rfl, ?_⟩
      refine ⟨_, rfl, _, rfl, _, rfl, four, fun o no => ⟨two, fun r nr => ?_⟩⟩
      have t3 := same_new (o := .tup [.str "wound", .ref m, .non, .ref f4]) (Same.refl H4) no
      have t4 := same_new (o := .tup [.ref a4, .ref o]) t3 nr
      exact kk _ r ((s3.trans s4).trans t4) ⟨a4, o, upd_same, hst4.same t4, ⟨m, .non, f4, kp nr upd_same, (s4.trans t4) _ _ hm, rfl, t4 _ _ hf4⟩⟩ ⟨hF.1, fun z => absurd rfl z, fun _ => hF.2⟩
    rw [decide_eq_false c2]
    refine iteF ?_
    refine ⟨fun τ H' => τ = [some (.ref b), some (.ref p), some (.ref st), some v, some (.str kd), some (.int s), some (.str n), some (.ref q), some (.str (spotOf σ s n)), some (oV en), some (.ref m), some (.str an), none, none, none] ∧ Same H3 H' ∧ ¬ (an = "abort" ∨ (an = "old" ∧ oldM (σ.it n) s = [])), ?_, ?_⟩
    · refine ⟨_, rfl, rfl, _, rfl, ?_⟩
      rw [ds]
      have abo : (an = "abort" ∨ (an = "old" ∧ oldM (σ.it n) s = [])) → ∀ {H4 : Hp}, Same H3 H4 → spAborted T.c_State T.c_Item [.ref p, .int s, .ref m] H4 Q E0 := fun c {H4} s34 => by
        have er : askR ⟨f, e, k⟩ σ kd s n z (metL en) an = (fallS σ (fal σ s), ⟨"abort", metL en, .non, fal σ s⟩) := (if_neg c1).trans ((if_neg c2).trans (if_pos c))
        rw [er] at kk
        exact ⟨p, m, s, metL en, U, N, σ, rfl, hσ3.same s34, hs, hU, hN, s34 _ _ hm, fun H5 q5 s5 hp hF => kk H5 q5 ((s3.trans s34).trans s5) hp ⟨hF.1, fun _ => .inr hF.2, fun z => absurd z (show ("abort" : Str) ≠ "wound" from by decide +kernel)⟩⟩
      by_cases c3 : an = "abort"
      · rw [decide_eq_true c3]
        exact iteT (iteT ⟨_, rfl, _, rfl, _, rfl, abo (.inl c3) (Same.refl _)⟩)
      rw [decide_eq_false c3]
      refine iteF ⟨_, rfl, rfl, _, rfl, ?_⟩
      rw [ds]
      by_cases c5 : an = "old"
      · rw [decide_eq_true c5]
        refine iteT ⟨_, rfl, _, rfl, q, σ.it n, s, rfl, hi3, wf.le, fun H4 r s34 nr hr => ⟨_, .inl ⟨_, SqL.of hr, rfl⟩, ?_⟩⟩
        cases hO : oldM (σ.it n) s with
        | nil => exact iteT ⟨_, rfl, _, rfl, _, rfl, abo (.inr ⟨c5, hO⟩) s34⟩
        | cons y l => exact iteF ⟨rfl, s34, fun z => z.elim c3 fun q => by cases q.2⟩
      · rw [decide_eq_false c5]
        exact iteF (iteF ⟨rfl, Same.refl _, fun z => z.elim c3 fun q => c5 q.1⟩)
    rintro τ H4 ⟨rfl, s34, c3⟩
    have er : askR ⟨f, e, k⟩ σ kd s n z (metL en) an = _ := (if_neg c1).trans ((if_neg c2).trans (if_neg c3))
    rw [er] at kk
    have hi4 := hi3.same s34
    have hq4 := s34 _ _ hq3
    have hm4 := s34 _ _ hm
    have s4 := s3.trans s34
    have hσ4 := hσ3.same s34
    have B4 := B3.same s34
    generalize hσ' : (if bindM e (spotOf σ s n) an = true then bondS σ s (hInt (σ.it n)) else σ) = σ' at kk
    refine ⟨fun τ H' => ∃ p', τ = [some (.ref b), some (.ref p'), some (.ref st), some v, some (.str kd), some (.int s), some (.str n), some (.ref q), some (.str (spotOf σ s n)), some (oV en), some (.ref m), some (.str an), none, none, none] ∧ Same H4 H' ∧ StAt T.c_State T.c_Item U N H' p' σ', ?_, ?_⟩
    · refine ⟨_, rfl, b, dxb, _, rfl, B4.ins, b, dxb, d, f, e, (k : Int), rfl, B4, _, rfl, _, rfl, e, _, an, rfl, fun H5 s5 => ⟨_, rfl, ?_⟩⟩
      by_cases cb : bindM e (spotOf σ s n) an = true
      · rw [cb]
        rw [if_pos cb] at hσ'
        obtain ⟨h, zz, ho⟩ : ∃ h z, (σ.it n).opn = some (h, z) := by
          cases ho : (σ.it n).opn with
          | some hz => exact ⟨hz.1, hz.2, rfl⟩
          | none =>
            obtain ⟨h1, h2⟩ := nohold (by unfold hOf; rw [ho]; rfl)
            have : ∀ a ∈ (["put", "abort", "last", "old", "skip"] : List Str), ∀ sp ∈ (["free", "late"] : List Str), bindM e sp a = false := by
              have : ∀ a ∈ (["put", "abort", "last", "old", "skip"] : List Str), ∀ sp ∈ (["free", "late"] : List Str), (if a = "open" then decide (sp ≠ "own") else decide (a = "skip") && (decide (sp = "below") || decide (sp = "above"))) = false := by decide +kernel
              intro a ha sp hsp
              unfold bindM
              rw [this a ha sp hsp, Bool.and_false]
            rw [this _ h1 _ h2] at cb
            cases cb
        have e1 : hV (σ.it n) = .int (hInt (σ.it n)) := by unfold hV hInt; rw [ho]
        have hU' : hInt (σ.it n) ∈ U := by unfold hInt; rw [ho]; exact wf.ho h zz ho
        refine iteT ⟨_, rfl, _, rfl, _, rfl, q, T.c_Item, dx, _, _, rfl, s5 _ _ hq4, T.cl_Item, T.na_Item_holder, rfl, p, s, hInt (σ.it n), U, N, σ, by rw [e1]; rfl, hσ4.same s5, hs, hU', hU, fun H6 p' s6 hst => ?_⟩
        rw [hσ'] at hst
        exact ⟨p', rfl, s5.trans s6, hst⟩
      · rw [if_neg cb] at hσ'
        have cb' : bindM e (spotOf σ s n) an = false := by cases q : bindM e (spotOf σ s n) an with | true => exact absurd q cb | false => rfl
        rw [cb', ← hσ']
        exact iteF ⟨p, rfl, s5, hσ4.same s5⟩
    rintro τ H5 ⟨p', rfl, s45, hst⟩
    have hi5 := hi4.same s45
    have hq5 := s45 _ _ hq4
    have hm5 := s45 _ _ hm4
    have s5 := s4.trans s45
    refine ⟨_, rfl, rfl, _, rfl, ?_⟩
    rw [ds]
    by_cases c6 : kd = "read"
    · rw [decide_eq_true c6]
      rw [if_pos c6] at kk
      refine iteT ⟨_, rfl, _, rfl, _, rfl, p', n, s, U, N, σ', rfl, hst, hn, hN, fun H6 p6 s56 hst6 => ?_⟩
      refine ⟨_, rfl, _, rfl, _, rfl, _, rfl, q, σ.it n, s, an, rfl, hi5.same s56, wf.ne, wf.le, fun ea hO => c3 (.inr ⟨ea, hO⟩), fun H7 y s67 hy => ⟨zero, fun u nu => ⟨four, fun o no => ⟨two, fun r nr => ?_⟩⟩⟩⟩
      have t2 := same_new (o := .tup []) (Same.refl H7) nu
      have t3 := same_new (o := .tup [.str "read", .ref m, y, .ref u]) t2 no
      have t4 := same_new (o := .tup [.ref p6, .ref o]) t3 nr
      have t57 := s56.trans s67
      exact kk _ r ((s5.trans t57).trans t4) ⟨p6, o, upd_same, hst6.same (s67.trans t4), ⟨m, y, u, kp nr upd_same, (t57.trans t4) _ _ hm5, hy.same t4, kp nr (kp no upd_same)⟩⟩ (fok_nil (by decide +kernel))
    rw [decide_eq_false c6]
    rw [if_neg c6] at kk
    refine iteF ⟨_, rfl, rfl, _, rfl, ?_⟩
    rw [ds]
    by_cases c7 : an = "skip"
    · rw [decide_eq_true c7]
      rw [if_pos c7] at kk
      refine iteT ⟨_, rfl, _, rfl, zero, fun u nu => ⟨four, fun o no => ⟨two, fun r nr => ?_⟩⟩⟩
      have t2 := same_new (o := .tup []) (Same.refl H5) nu
      have t3 := same_new (o := .tup [.str "skip", .ref m, .non, .ref u]) t2 no
      have t4 := same_new (o := .tup [.ref p', .ref o]) t3 nr
      exact kk _ r (s5.trans t4) ⟨p', o, upd_same, hst.same t4, ⟨m, .non, u, kp nr upd_same, t4 _ _ hm5, rfl, kp nr (kp no upd_same)⟩⟩ (fok_nil (by decide +kernel))
    rw [decide_eq_false c7]
    rw [if_neg c7] at kk
    have hw : kd = "write" := by
      have : kd ∈ KINDS := hkd
      simp only [KINDS, List.mem_cons, List.not_mem_nil, or_false] at this
      exact this.resolve_left c6
    have ev := hv hw
    subst ev
    obtain ⟨dx5, ka5, hq5', hk5⟩ := hi5
    refine iteF ⟨_, rfl, q, T.c_Item, dx5, _, _, rfl, hq5', T.cl_Item, T.na_Item_kept, rfl, _, rfl, _, rfl, _, rfl, q, T.c_Item, dx5, _, _, rfl, hq5', T.cl_Item, T.na_Item_reader, rfl, fun x dx' nx ndx ne => mk_item nx ndx fun H6 s56 hx => ⟨rfl, ?_⟩⟩
    refine ⟨_, rfl, _, rfl, _, rfl, p', x, n, { σ.it n with opn := some (s, z) }, U, N, σ', rfl, hst.same s56, hn, hN, ⟨dx', ka5, hx, hk5.same s56⟩, { ne := wf.ne, le := wf.le, ho := fun h v q => by cases q; exact hs }, fun H7 p7 s67 hst7 => ?_⟩
    refine ⟨_, rfl, zero, fun u nu => ⟨four, fun o no => ⟨two, fun r nr => ?_⟩⟩⟩
    have t2 := same_new (o := .tup []) (Same.refl H7) nu
    have t3 := same_new (o := .tup [.str "put", .ref m, .non, .ref u]) t2 no
    have t4 := same_new (o := .tup [.ref p7, .ref o]) t3 nr
    have t57 := s56.trans s67
    exact kk _ r ((s5.trans t57).trans t4) ⟨p7, o, upd_same, hst7.same t4, ⟨m, .non, u, kp nr upd_same, (t57.trans t4) _ _ hm5, rfl, kp nr (kp no upd_same)⟩⟩ (fok_nil (by decide +kernel))
end
end K16

namespace K16
open PySem L2 SI CM BK OWN MIR StX TX TL
section
variable {w : World} {K : PySem.W.Frag} {mg : Str → Option Value} {base : Heap} (T : Txt w K mg)
theorem isF_self {σ : MIR.S} {s : Int} {L : List Int} (h : IsF σ s L) : s ∈ L := (h.2 s).mpr .refl
/-- what asked gives by its word -/
theorem ask_wound {B : Bkm} {σ : MIR.S} {kd : Str} {s : Int} {n : Str} {v : Int} (h : (askM B σ kd s n v).2.word = "wound") : askM B σ kd s n v = (fallS σ (fal σ (hInt (σ.it n))), ⟨"wound", metL (entOf σ kd s n), .non, fal σ (hInt (σ.it n))⟩) := by
  rw [ask_R] at h ⊢
  generalize ansL B kd (spotOf σ s n) (entOf σ kd s n) = an at h ⊢
  unfold askR at h ⊢
  by_cases c1 : an = "wait"
  · rw [if_pos c1] at h; exact absurd h (show ("wait" : Str) ≠ "wound" from by decide +kernel)
  rw [if_neg c1] at h ⊢
  by_cases c2 : an = "wound"
  · rw [if_pos c2]
  rw [if_neg c2] at h ⊢
  by_cases c3 : an = "abort" ∨ (an = "old" ∧ oldM (σ.it n) s = [])
  · rw [if_pos c3] at h; exact absurd h (show ("abort" : Str) ≠ "wound" from by decide +kernel)
  rw [if_neg c3] at h ⊢
  by_cases c4 : kd = "read"
  · rw [if_pos c4] at h; exact absurd h (show ("read" : Str) ≠ "wound" from by decide +kernel)
  rw [if_neg c4] at h ⊢
  by_cases c5 : an = "skip"
  · rw [if_pos c5] at h; exact absurd h (show ("skip" : Str) ≠ "wound" from by decide +kernel)
  rw [if_neg c5] at h
  exact absurd h (show ("put" : Str) ≠ "wound" from by decide +kernel)
theorem wound_ans {B : Bkm} {σ : MIR.S} {kd : Str} {s : Int} {n : Str} {v : Int} (h : (askM B σ kd s n v).2.word = "wound") : ansL B kd (spotOf σ s n) (entOf σ kd s n) = "wound" := by
  rw [ask_R] at h
  generalize ansL B kd (spotOf σ s n) (entOf σ kd s n) = an at h ⊢
  unfold askR at h
  by_cases c1 : an = "wait"
  · rw [if_pos c1] at h; exact absurd h (show ("wait" : Str) ≠ "wound" from by decide +kernel)
  rw [if_neg c1] at h
  by_cases c2 : an = "wound"
  · exact c2
  rw [if_neg c2] at h
  by_cases c3 : an = "abort" ∨ (an = "old" ∧ oldM (σ.it n) s = [])
  · rw [if_pos c3] at h; exact absurd h (show ("abort" : Str) ≠ "wound" from by decide +kernel)
  rw [if_neg c3] at h
  by_cases c4 : kd = "read"
  · rw [if_pos c4] at h; exact absurd h (show ("read" : Str) ≠ "wound" from by decide +kernel)
  rw [if_neg c4] at h
  by_cases c5 : an = "skip"
  · rw [if_pos c5] at h; exact absurd h (show ("skip" : Str) ≠ "wound" from by decide +kernel)
  rw [if_neg c5] at h
  exact absurd h (show ("put" : Str) ≠ "wound" from by decide +kernel)
/-- nobody is wounded where nobody holds -/
theorem no_wound {B : Bkm} (hf : ∀ x ∈ ENT, B.f x ∈ chs x) {σ : MIR.S} {kd : Str} (hk : kd ∈ KINDS) {s : Int} {n : Str} {v : Int} (h0 : hOf (σ.it n) = none) : (askM B σ kd s n v).2.word ≠ "wound" := fun h => by
  have h1 := wound_ans h
  have h2 := no_hold hf B rfl hk (s := s) (x := (lastV (σ.it n)).1) (decide ((σ.it n).rd > s))
  rw [← h0] at h2
  have h3 : ansL B kd (spotOf σ s n) (entOf σ kd s n) ∈ (["put", "abort", "last", "old", "skip"] : List Str) := h2.1
  rw [h1] at h3
  exact absurd h3 (by decide +kernel)
theorem rel_none {L : List Int} {i : MIR.It} (h : hInt i ∈ L) : hOf (relI L i) = none := by
  unfold relI hOf
  unfold hInt at h
  cases e : i.opn with
  | none => show Option.map _ i.opn = none; rw [e]; rfl
  | some hv =>
    rw [e] at h
    show Option.map _ (if hv.1 ∈ L then { i with opn := none } else i).opn = none
    rw [if_pos h]; rfl
theorem ask_met {B : Bkm} {σ : MIR.S} {kd : Str} {s : Int} {n : Str} {v : Int} : (askM B σ kd s n v).2.met.length ≤ 1 := by
  rw [ask_R]
  have hm : (metL (entOf σ kd s n)).length ≤ 1 := by cases entOf σ kd s n with | none => exact Nat.zero_le _ | some _ => exact Nat.le_refl _
  generalize metL (entOf σ kd s n) = m at hm
  generalize ansL B kd (spotOf σ s n) (entOf σ kd s n) = an
  unfold askR
  by_cases c1 : an = "wait"
  · rw [if_pos c1]; exact hm
  rw [if_neg c1]
  by_cases c2 : an = "wound"
  · rw [if_pos c2]; exact hm
  rw [if_neg c2]
  by_cases c3 : an = "abort" ∨ (an = "old" ∧ oldM (σ.it n) s = [])
  · rw [if_pos c3]; exact hm
  rw [if_neg c3]
  by_cases c4 : kd = "read"
  · rw [if_pos c4]; exact hm
  rw [if_neg c4]
  by_cases c5 : an = "skip"
  · rw [if_pos c5]; exact hm
  rw [if_neg c5]; exact hm
def Srt (U : List Int) (o : Out) : Prop := (∀ t ∈ o.fallen, t ∈ U) ∧ o.fallen.Pairwise (· < ·)
theorem FOk.srt {U : List Int} {σ : MIR.S} {s h : Int} {o : Out} (f : FOk U σ s h o) : Srt U o := ⟨f.1, by
  by_cases c : o.word = "wound"
  · exact (f.2.2 c).1
  · rcases f.2.1 c with e | e
    · rw [e]; exact List.Pairwise.nil
    · exact e.1⟩
def spReq (CB CS CI : Addr) : Sp := fun vs H Q _ => ∃ (b dxb d : Addr) (f : Str → Str) (e : Str) (k : Nat) (p st : Addr) (v : V) (z : Int) (kd : Str) (s : Int) (n : Str) (U : List Int) (N : List Str) (σ : MIR.S), vs = [.ref b, .ref p, .ref st, v] ∧
  Bk CB H b dxb d f e (k : Int) ∧ (∀ x ∈ ENT, f x ∈ chs x) ∧ ReqAt H st kd s n ∧ kd ∈ KINDS ∧ (kd = "write" → v = .int z) ∧ StAt CS CI U N H p σ ∧ s ∈ U ∧ n ∈ N ∧ U.length ≤ 400 ∧ N.length ≤ 400 ∧
  ∀ (H' : Hp) (q : Addr), Same H H' → PairAt CS CI U N H' q (reqM ⟨f, e, k⟩ σ kd s n z) → Srt U (reqM ⟨f, e, k⟩ σ kd s n z).2 → Q (.ref q) H'
theorem ok_requested : FnOk PP w K mg base CX0 9 T.f_requested T.d_requested ["book", "state", "step", "value"] (spReq T.c_Book T.c_State T.c_Item) := by
  refine T.F_requested.ok sc_requested (fun vs H Q E h => ?_) (fun cdv A outer s H vs Q E hr h => ?_)
  · obtain ⟨b, dxb, d, f, e, k, p, st, v, z, kd, s, n, U, N, σ, rfl, _⟩ := h
    rfl
  · obtain ⟨b, dxb, d, f, e, k, p, st, v, z, kd, s, n, U, N, σ, rfl, B, hf, hst, hkd, hv, hσ, hs, hn, hU, hN, kk⟩ := h
    refine ⟨_, pss_cons (ps_asg (pe_call (ok_asked T) (hr.mono (by decide)) (by rfl) T.g_asked T.F_asked.kp (b_asked T) .nil pass0 (pa_cons (pv 0) (pa_cons (pv 1) (pa_cons (pv 2) (pa_cons (pv 3) pa_nil))))) (pg_tup rfl (pgs_cons (pg_name (i := 4) sc_requested.nd rfl (.inl rfl)) (pgs_cons (pg_name (i := 5) sc_requested.nd rfl (.inl rfl)) pgs_nil))))
 (pss_cons (ps_asg (pv 5) (pg_tup rfl (pgs_cons (pg_name (i := 6) sc_requested.nd rfl (.inl rfl)) (pgs_cons (pg_name (i := 7) sc_requested.nd rfl (.inl rfl)) (pgs_cons (pg_name (i := 8) sc_requested.nd rfl (.inl rfl)) (pgs_cons (pg_name (i := 9) sc_requested.nd rfl (.inl rfl)) pgs_nil))))))
 (pss_cons (ps_if (pt_cmpR op_ne (pv 6) pe_str (nomark _))
 (pss_one (ps_ret (pe_tup (pa_cons (pv 4) (pa_cons (pv 5) pa_nil)))))
 pss_nil)
 (pss_cons (ps_if (pt_cmpR op_in_seq (pe_ix ix_tup (pv 2) pe_int (fun _ _ => rfl)) (pv 9) rfl)
 (pss_one (ps_ret (pe_tup (pa_cons (pv 4) (pa_cons (pe_tup (pa_cons pe_str (pa_cons (pv 7) (pa_cons pe_non (pa_cons (pv 9) pa_nil))))) pa_nil)))))
 pss_nil)
 (pss_cons (ps_asg (pe_call (ok_asked T) (hr.mono (by decide)) (by rfl) T.g_asked T.F_asked.kp (b_asked T) .nil pass0 (pa_cons (pv 0) (pa_cons (pv 4) (pa_cons (pv 2) (pa_cons (pv 3) pa_nil))))) (pg_tup rfl (pgs_cons (pg_name (i := 10) sc_requested.nd rfl (.inl rfl)) (pgs_cons (pg_tup rfl (pgs_cons (pg_name (i := 6) sc_requested.nd rfl (.inl rfl)) (pgs_cons (pg_name (i := 11) sc_requested.nd rfl (.inl rfl)) (pgs_cons (pg_name (i := 12) sc_requested.nd rfl (.inl rfl)) (pgs_cons (pg_name (i := 13) sc_requested.nd rfl (.inl rfl)) pgs_nil))))) pgs_nil))))
 (pss_one (ps_ret (pe_tup (pa_cons (pv 10) (pa_cons (pe_tup (pa_cons (pv 6) (pa_cons (pe_tup (pa_star (pv 7) (pa_star (pv 11) pa_nil))) (pa_cons (pv 12) (pa_cons (pe_call (ok_ascending T) (hr.mono (by decide)) (by rfl) T.g_ascending T.F_ascending.kp (b_ascending T) .nil pass0 (pa_cons (pe_lst (pa_star (pv 9) (pa_star (pv 13) pa_nil))) pa_nil)) pa_nil))))) pa_nil))))))))), ?_⟩
    have two : 2 ≤ sizeLine := by decide
    have four : 4 ≤ sizeLine := by decide
    refine ⟨_, rfl, _, rfl, _, rfl, _, rfl, b, dxb, d, f, e, k, p, st, v, z, kd, s, n, U, N, σ, rfl, B, hf, hst, hkd, hv, hσ, hs, hn, hU, hN, fun H1 q1 s1 hp1 hf1 => ?_⟩
    have wnd := @ask_wound ⟨f, e, k⟩ σ kd s n z
    have am := fun σ' => @ask_met ⟨f, e, k⟩ σ' kd s n z
    have am1 := am σ
    have nwn := fun σ' h0 => @no_wound ⟨f, e, k⟩ hf σ' kd hkd s n z h0
    have rdef : reqM ⟨f, e, k⟩ σ kd s n z = (if (askM ⟨f, e, k⟩ σ kd s n z).2.word ≠ "wound" then askM ⟨f, e, k⟩ σ kd s n z else if s ∈ (askM ⟨f, e, k⟩ σ kd s n z).2.fallen then ((askM ⟨f, e, k⟩ σ kd s n z).1, { (askM ⟨f, e, k⟩ σ kd s n z).2 with word := "abort", val := .non }) else ((askM ⟨f, e, k⟩ (askM ⟨f, e, k⟩ σ kd s n z).1 kd s n z).1, ⟨(askM ⟨f, e, k⟩ (askM ⟨f, e, k⟩ σ kd s n z).1 kd s n z).2.word, (askM ⟨f, e, k⟩ σ kd s n z).2.met ++ (askM ⟨f, e, k⟩ (askM ⟨f, e, k⟩ σ kd s n z).1 kd s n z).2.met, (askM ⟨f, e, k⟩ (askM ⟨f, e, k⟩ σ kd s n z).1 kd s n z).2.val, asc ((askM ⟨f, e, k⟩ σ kd s n z).2.fallen ++ (askM ⟨f, e, k⟩ (askM ⟨f, e, k⟩ σ kd s n z).1 kd s n z).2.fallen)⟩)) := rfl
    rw [rdef] at kk
    generalize askM ⟨f, e, k⟩ σ kd s n z = r at kk hp1 hf1 wnd am1
    obtain ⟨a1, b1, hq1, hst1, m1, v1, f1, hb1, hm1, hv1, hff1⟩ := hp1
    refine ⟨q1, _, rfl, SqT.of hq1, rfl, _, _, rfl, _, _, rfl, rfl, ?_⟩
    refine ⟨_, rfl, b1, _, rfl, SqT.of hb1, rfl, _, _, rfl, _, _, rfl, _, _, rfl, _, _, rfl, rfl, ?_⟩
    refine ⟨_, rfl, rfl, _, rfl, ?_⟩
    rw [ds]
    by_cases c1 : r.2.word = "wound"
    case neg =>
      rw [decide_eq_false c1]
      rw [if_pos c1] at kk
      refine iteT ⟨_, rfl, _, rfl, two, fun o no => ?_⟩
      have t1 := same_new (o := .tup [.ref a1, .ref b1]) (Same.refl H1) no
      exact kk _ o (s1.trans t1) ⟨a1, b1, upd_same, hst1.same t1, ⟨m1, v1, f1, t1 _ _ hb1, t1 _ _ hm1, hv1.same t1, t1 _ _ hff1⟩⟩ hf1.srt
    rw [decide_eq_true c1]
    rw [if_neg (fun z => z c1)] at kk
    have hst : H st = some (.tup [.str kd, .int s, .str n]) := hst
    refine iteF ⟨_, rfl, st, _, _, .int s, rfl, rfl, SqT.of (s1 _ _ hst), rfl, _, rfl, f1, _, rfl, .inr (SqT.of hff1), rfl, flat_ints _, _, rfl, ?_⟩
    rw [inV_int]
    by_cases c2 : s ∈ r.2.fallen
    · rw [decide_eq_true c2]
      rw [if_pos c2] at kk
      refine iteT ⟨_, rfl, _, rfl, _, rfl, four, fun o no => ⟨two, fun u nu => ?_⟩⟩
      have t1 := same_new (o := .tup [.str "abort", .ref m1, .non, .ref f1]) (Same.refl H1) no
      have t2 := same_new (o := .tup [.ref a1, .ref o]) t1 nu
      exact kk _ u (s1.trans t2) ⟨a1, o, upd_same, hst1.same t2, ⟨m1, .non, f1, kp nu upd_same, t2 _ _ hm1, rfl, t2 _ _ hff1⟩⟩ hf1.srt
    rw [decide_eq_false c2]
    rw [if_neg c2] at kk
    have er := wnd c1
    have hF : IsF σ (hInt (σ.it n)) r.2.fallen := hf1.2.2 c1
    have ef : r.2.fallen = fal σ (hInt (σ.it n)) := by rw [er]
    have e1 : r.1 = fallS σ r.2.fallen := by rw [er]
    have h0 : hOf (r.1.it n) = none := by rw [e1]; exact rel_none (isF_self hF)
    have nw := nwn r.1 h0
    refine iteF ⟨_, rfl, _, rfl, _, rfl, _, rfl, b, dxb, d, f, e, k, a1, st, v, z, kd, s, n, U, N, r.1, rfl, B.same s1, hf, s1 _ _ hst, hkd, hv, hst1, hs, hn, hU, hN, fun H2 q2 s2 hp2 hf2 => ?_⟩
    have am2 := am r.1
    generalize askM ⟨f, e, k⟩ r.1 kd s n z = t at kk hp2 hf2 nw am2
    obtain ⟨a2, b2, hq2, hst2, m2, v2, f2, hb2, hm2, hv2, hff2⟩ := hp2
    refine ⟨q2, _, rfl, SqT.of hq2, rfl, _, _, rfl, _, _, rfl, ⟨b2, _, rfl, SqT.of hb2, rfl, _, _, rfl, _, _, rfl, _, _, rfl, _, _, rfl, rfl, rfl, ?_⟩⟩
    have ndd : (r.2.fallen ++ t.2.fallen).Nodup := by
      refine List.nodup_append.mpr ⟨strict_nd hF.1, strict_nd hf2.srt.2, fun x hx y hy exy => ?_⟩
      subst exy
      rcases hf2.2.1 nw with e0 | e0
      · rw [e0] at hy; cases hy
      · have hr := (e0.2 x).mp hy
        cases hr with
        | refl => exact c2 hx
        | step _ _ ho =>
          rw [e1] at ho
          have : (fallS σ r.2.fallen).ov x = some false := if_pos hx
          rw [this] at ho; cases ho
    have l1 : r.2.fallen.length ≤ 400 := by have := nd_le (strict_nd hF.1) hf1.1; omega
    have l2 : t.2.fallen.length ≤ 400 := by have := nd_le (strict_nd hf2.srt.2) hf2.1; omega
    have hm1' := s2 _ _ hm1
    have hf1' := s2 _ _ hff1
    refine ⟨_, rfl, _, rfl, _, rfl, m1, _, rfl, .inl (SqT.of hm1'), _, rfl, m2, _, rfl, .inl (SqT.of hm2), by rw [List.append_nil, List.length_append, List.length_map, List.length_map]; exact Nat.le_trans (show _ ≤ 2 by omega) two, fun u nu => ?_⟩
    rw [List.append_nil, ← List.map_append]
    have t1 := same_new (o := .tup ((r.2.met ++ t.2.met).map V.str)) (Same.refl H2) nu
    have hu : (upd H2 u (.tup ((r.2.met ++ t.2.met).map V.str))) u = some (.tup ((r.2.met ++ t.2.met).map V.str)) := upd_same
    generalize upd H2 u (.tup ((r.2.met ++ t.2.met).map V.str)) = H3 at t1 hu
    refine ⟨_, rfl, _, rfl, f1, _, rfl, .inl (SqT.of (t1 _ _ hf1')), _, rfl, f2, _, rfl, .inl (SqT.of (t1 _ _ hff2)), by rw [List.append_nil, List.length_append, List.length_map, List.length_map]; exact Nat.le_of_lt (small1000 (by omega)), fun L nL => ?_⟩
    rw [List.append_nil, ← List.map_append]
    refine ⟨L, r.2.fallen ++ t.2.fallen, rfl, SqL.of upd_same, by rw [List.length_append]; omega, fun H4 g ms s4 ng pm ps hg => ⟨four, fun o no => ⟨two, fun y ny => ?_⟩⟩⟩
    have ea : asc (r.2.fallen ++ t.2.fallen) = ms := asc_eq (perm_asc pm ps ndd)
    rw [ea] at kk
    have t2 := (same_new (o := .lst ((r.2.fallen ++ t.2.fallen).map V.int)) t1 nL).trans s4
    have t3 := same_new (o := .tup [.str t.2.word, .ref u, v2, .ref g]) (Same.refl H4) no
    have t4 := same_new (o := .tup [.ref a2, .ref o]) t3 ny
    have t24 := t2.trans t4
    have t34 : Same H3 _ := ((same_new (o := .lst ((r.2.fallen ++ t.2.fallen).map V.int)) (Same.refl H3) nL).trans s4).trans t4
    refine kk _ y ((s1.trans s2).trans t24) ⟨a2, o, upd_same, hst2.same t24, ⟨u, v2, g, kp ny upd_same, t34 _ _ hu, hv2.same t24, t4 _ _ hg⟩⟩ ⟨fun x hx => ?_, (perm_asc pm ps ndd).1⟩
    rcases List.mem_append.mp (pm.mem_iff.mp hx) with q | q
    · exact hf1.1 x q
    · exact hf2.1 x q
end
end K16

namespace K16
open PySem L2 SI CM BK OWN MIR StX TX TL
section
variable {w : World} {K : PySem.W.Frag} {mg : Str → Option Value} {base : Heap} (T : Txt w K mg)
def StpAt (H : Hp) (st : Addr) : Stp → Prop
  | .req k s n => H st = some (.tup [.str k, .int s, .str n])
  | .com s => H st = some (.tup [.str "commit", .int s])
  | .abo s => H st = some (.tup [.str "abort", .int s])
theorem StpAt.same {H H' : Hp} {st : Addr} (s : Same H H') : ∀ {x : Stp}, StpAt H st x → StpAt H' st x
  | .req _ _ _, h => s _ _ h
  | .com _, h => s _ _ h
  | .abo _, h => s _ _ h
def StpOk (U : List Int) (N : List Str) (v : V) (z : Int) : Stp → Prop
  | .req k s n => s ∈ U ∧ n ∈ N ∧ k ∈ KINDS ∧ (k = "write" → v = .int z)
  | .com s => s ∈ U
  | .abo s => s ∈ U
theorem StpOk.who {U : List Int} {N : List Str} {v : V} {z : Int} : ∀ {x : Stp}, StpOk U N v z x → x.who ∈ U
  | .req _ _ _, h => h.1
  | .com _, h => h
  | .abo _, h => h
def wordOf : Stp → Str
  | .req k _ _ => k
  | .com _ => "commit"
  | .abo _ => "abort"
noncomputable def takeN (B : Bkm) (σ : MIR.S) (x : Stp) (z : Int) : MIR.S × Out := match x with
  | .com s => if waitsOf σ s ≠ [] then (σ, ⟨"wait", [], .tup (asc (waitsOf σ s)), []⟩) else (commS σ s B.keep, ⟨"commit", [], .non, []⟩)
  | .abo s => (fallS σ (fal σ s), ⟨"abort", [], .non, fal σ s⟩)
  | .req k s n => reqM B σ k s n z
def spTaken (CB CS CI : Addr) : Sp := fun vs H Q _ => ∃ (b dxb d : Addr) (f : Str → Str) (e : Str) (k : Nat) (p st : Addr) (v : V) (z : Int) (x : Stp) (U : List Int) (N : List Str) (σ : MIR.S), vs = [.ref b, .ref p, .ref st, v] ∧
  Bk CB H b dxb d f e (k : Int) ∧ (∀ x ∈ ENT, f x ∈ chs x) ∧ 1 ≤ k ∧ k ≤ 20 ∧ StpAt H st x ∧ StpOk U N v z x ∧ StAt CS CI U N H p σ ∧ U.length ≤ 400 ∧ N.length ≤ 400 ∧
  ∀ (H' : Hp) (q : Addr), Same H H' → PairAt CS CI U N H' q (takeM ⟨f, e, k⟩ σ x z) → Srt U (takeM ⟨f, e, k⟩ σ x z).2 → Q (.ref q) H'
theorem ok_taken : FnOk PP w K mg base CX0 10 T.f_taken T.d_taken ["book", "state", "step", "value"] (spTaken T.c_Book T.c_State T.c_Item) := by
  refine T.F_taken.ok sc_taken (fun vs H Q E h => ?_) (fun cdv A outer s H vs Q E hr h => ?_)
  · obtain ⟨b, dxb, d, f, e, k, p, st, v, z, x, U, N, σ, rfl, _⟩ := h
    rfl
  · obtain ⟨b, dxb, d, f, e, k, p, st, v, z, x, U, N, σ, rfl, B, hf, k1, k20, hst, hx, hσ, hU, hN, kk⟩ := h
    refine ⟨_, C8.pss_cut (ps_asg (pe_slice sl_tupA (pv 2) po_none (po_some pe_int)) (pg_tup rfl (pgs_cons (pg_name (i := 4) sc_taken.nd rfl (.inl rfl)) (pgs_cons (pg_name (i := 5) sc_taken.nd rfl (.inl rfl)) pgs_nil))))
 (pss_cons (ps_if (pt_cmp (pc_din (hu_of hr) (pv 5) (pe_fld (pv 1) rfl)))
 (pss_one (ps_ret (pe_tup (pa_cons (pv 1) (pa_cons (pe_tup (pa_cons pe_str (pa_cons (pe_tup pa_nil) (pa_cons pe_non (pa_cons (pe_tup pa_nil) pa_nil))))) pa_nil)))))
 pss_nil)
 (pss_cons (ps_if (pt_cmpR op_eq (pv 4) pe_str (nomark _))
 (pss_one (ps_ret (pe_call (ok_committed T) (hr.mono (by decide)) (by rfl) T.g_committed T.F_committed.kp (b_committed T) .nil pass0 (pa_cons (pv 0) (pa_cons (pv 1) (pa_cons (pv 5) pa_nil))))))
 pss_nil)
 (pss_cons (ps_if (pt_cmpR op_eq (pv 4) pe_str (nomark _))
 (pss_one (ps_ret (pe_call (ok_aborted T) (hr.mono (by decide)) (by rfl) T.g_aborted T.F_aborted.kp (b_aborted T) .nil pass0 (pa_cons (pv 1) (pa_cons (pv 5) (pa_cons (pe_tup pa_nil) pa_nil))))))
 pss_nil)
 (pss_one (ps_ret (pe_call (ok_requested T) (hr.mono (by decide)) (by rfl) T.g_requested T.F_requested.kp (b_requested T) .nil pass0 (pa_cons (pv 0) (pa_cons (pv 1) (pa_cons (pv 2) (pa_cons (pv 3) pa_nil)))))))))), ?_⟩
    have zero : 0 ≤ sizeLine := by decide
    have two : 2 ≤ sizeLine := by decide
    have four : 4 ≤ sizeLine := by decide
    refine ⟨fun τ H' => τ = [some (.ref b), some (.ref p), some (.ref st), some v, some (.str (wordOf x)), some (.int x.who)] ∧ Same H H', ?_, ?_⟩
    · cases x with
      | req kd s n =>
        have hst : H st = some (.tup [.str kd, .int s, .str n]) := hst
        refine ⟨_, rfl, _, rfl, st, _, rfl, SqT.of hst, fun hw => ?_, fun hw y ny => ?_⟩
        · have h2 : HT.sIx 3 3 (some ((2 : Nat) : Int)) = 3 := hw.2
          rw [HT.sIx_nat] at h2
          exact absurd h2 (by decide)
        · exact ⟨y, [.str kd, .int s], rfl, SqT.of upd_same, rfl, _, _, rfl, _, _, rfl, rfl, rfl, same_new (Same.refl H) ny⟩
      | com s =>
        have hst : H st = some (.tup [.str "commit", .int s]) := hst
        refine ⟨_, rfl, _, rfl, st, _, rfl, SqT.of hst, fun hw => ?_, fun hw y ny => ?_⟩
        · exact ⟨st, [.str "commit", .int s], rfl, SqT.of hst, rfl, _, _, rfl, _, _, rfl, rfl, rfl, Same.refl H⟩
        · exact absurd ⟨HT.sIx_none 2 0, HT.sIx_nat 2 2 2⟩ hw
      | abo s =>
        have hst : H st = some (.tup [.str "abort", .int s]) := hst
        refine ⟨_, rfl, _, rfl, st, _, rfl, SqT.of hst, fun hw => ?_, fun hw y ny => ?_⟩
        · exact ⟨st, [.str "abort", .int s], rfl, SqT.of hst, rfl, _, _, rfl, _, _, rfl, rfl, rfl, Same.refl H⟩
        · exact absurd ⟨HT.sIx_none 2 0, HT.sIx_nat 2 2 2⟩ hw
    rintro τ H1 ⟨rfl, s1⟩
    have hσ1 := hσ.same s1
    have B1 := B.same s1
    have hst1 := hst.same s1
    obtain ⟨dx, dsx, dv, db, hp, n1, n2, n3, D1, D2, D3⟩ := hσ1.ex
    obtain ⟨ov, hov, ond, hO⟩ := D2.ex
    have g := DGet.k (k := Sum.inl x.who) hov
    have ho := hO (.inl x.who)
    refine ⟨_, rfl, _, rfl, p, T.c_State, dx, _, _, rfl, hp, T.cl_State, T.na_State_over, rfl, dv, _, rfl, g, ?_⟩
    cases e0 : valV ov (Sum.inl x.who) with
    | some y =>
      rw [e0] at ho
      obtain ⟨bb, _, _, eb⟩ := ho
      have er : takeM ⟨f, e, k⟩ σ x z = (σ, ⟨"void", [], .non, []⟩) := if_pos (by rw [eb]; rfl)
      rw [er] at kk
      refine ⟨_, rfl, iteT ⟨_, rfl, zero, fun u nu => ⟨zero, fun v nv => ⟨four, fun o no => ⟨two, fun r nr => ?_⟩⟩⟩⟩⟩
      have t1 := same_new (o := .tup []) (Same.refl H1) nu
      have t2 := same_new (o := .tup []) t1 nv
      have t3 := same_new (o := .tup [.str "void", .ref u, .non, .ref v]) t2 no
      have t4 := same_new (o := .tup [.ref p, .ref o]) t3 nr
      exact kk _ r (s1.trans t4) ⟨p, o, upd_same, hσ1.same t4, ⟨u, .non, v, kp nr upd_same, kp nr (kp no (kp nv upd_same)), rfl, kp nr (kp no upd_same)⟩⟩ ⟨fun t h => (by cases h), List.Pairwise.nil⟩
    | none =>
      rw [e0] at ho
      have ho : σ.ov x.who = none := ho
      have er : takeM ⟨f, e, k⟩ σ x z = takeN ⟨f, e, k⟩ σ x z := if_neg (by rw [ho]; exact Bool.false_ne_true)
      rw [er] at kk
      refine ⟨_, rfl, iteF ⟨_, rfl, rfl, _, rfl, ?_⟩⟩
      rw [ds]
      cases x with
      | com s =>
        rw [decide_eq_true (show wordOf (.com s) = "commit" from rfl)]
        have hs : s ∈ U := hx
        refine iteT ⟨_, rfl, _, rfl, _, rfl, b, dxb, d, f, e, k, p, s, U, N, σ, rfl, B1, k1, k20, hσ1, hs, hU, hN, fun H2 q s2 hq => kk H2 q (s1.trans s2) hq ?_⟩
        show Srt U (comM σ s k).2
        unfold comM
        split <;> exact ⟨fun t h => (by cases h), List.Pairwise.nil⟩
      | abo s =>
        rw [decide_eq_false (show ¬ wordOf (.abo s) = "commit" from (by decide +kernel : ¬ ("abort" : Str) = "commit"))]
        refine iteF ⟨_, rfl, rfl, _, rfl, ?_⟩
        rw [ds, decide_eq_true (show wordOf (.abo s) = "abort" from rfl)]
        have hs : s ∈ U := hx
        refine iteT ⟨_, rfl, _, rfl, zero, fun u nu => ?_⟩
        have t1 := same_new (o := .tup []) (Same.refl H1) nu
        exact ⟨p, u, s, [], U, N, σ, rfl, hσ1.same t1, hs, hU, hN, upd_same, fun H2 q s2 hq hF => kk H2 q (s1.trans (t1.trans s2)) hq ⟨hF.1, hF.2.1⟩⟩
      | req kd s n =>
        obtain ⟨hs, hn, hk, hv⟩ := hx
        have w1 : ¬ wordOf (.req kd s n) = "commit" := by
          have : ∀ k ∈ KINDS, ¬ k = "commit" := by decide +kernel
          exact this kd hk
        have w2 : ¬ wordOf (.req kd s n) = "abort" := by
          have : ∀ k ∈ KINDS, ¬ k = "abort" := by decide +kernel
          exact this kd hk
        rw [decide_eq_false w1]
        refine iteF ⟨_, rfl, rfl, _, rfl, ?_⟩
        rw [ds, decide_eq_false w2]
        exact iteF ⟨_, rfl, _, rfl, _, rfl, _, rfl, b, dxb, d, f, e, k, p, st, v, z, kd, s, n, U, N, σ, rfl, B1, hf, hst1, hk, hv, hσ1, hs, hn, hU, hN, fun H2 q s2 hq hF => kk H2 q (s1.trans s2) hq hF⟩
end
end K16

/-! for i, x in enumerate(xs, start=c). -/
namespace EN
open PySem PySem.Spec PyProof.Rows L2
/-- the list at a, each item in a new pair behind a count from c on -/
def IteC (K : PySem.W.Frag) (a : Addr) (c : Int) : L2.It where
  go := fun i H => ∃ (xs : List V) (x : V), SqL K H a xs ∧ xs[i]? = some x
  yld := fun i H v H' => ∃ T x, v = .ref T ∧ H T = none ∧ H' = upd H T (.tup [.int (c + (i : Nat)), x]) ∧ ∀ xs, SqL K H a xs → xs[i]? = some x
  stop := fun i H => ∃ xs : List V, SqL K H a xs ∧ xs.length = i
theorem turn_enumC {P : Program} {w : World} {K : PySem.W.Frag} {elts : List Expr} {kk : Nat} {tpos : Pos} (a e it : Addr) (c : Int) :
    Turn P w K (.Tuple elts kk tpos) (IteC K a c) [e, it] e (fun i h => (∃ old, IsEnum h e it (c + (i : Nat)) old) ∧ h.IsListIter it a i ∧ e ≠ it) where
  mem := List.mem_cons_self ..
  obj := fun i h st b hb => by
    obtain ⟨⟨old, he⟩, ⟨o, ho, hc, hd⟩, _⟩ := st
    rcases List.mem_cons.mp hb with z | z
    · rw [z]; exact ⟨_, he, fun v q => nomatch q⟩
    · rw [List.mem_singleton.mp z]; exact ⟨o, ho, fun v q => by rw [hd] at q; cases q⟩
  keep := fun i h h' ⟨⟨old, he⟩, hi, hne⟩ k => ⟨⟨old, k e (by simp) _ he⟩, hi.at fun o q => k it (by simp) o q, hne⟩
  item := by
    rintro X rfl rfl rfl hcalm i pins s σ H E I hf ⟨⟨old, he⟩, hit, hne⟩ ⟨xs, x, hq, hx⟩
    obtain ⟨its, rv, p, hz⟩ := I.list hq
    obtain ⟨u, hu, ru⟩ := rv.get hx
    have ne1 : a ≠ it := fun z => by
      obtain ⟨o1, g1, c1, _⟩ := hit
      obtain ⟨o2, g2, c2, _⟩ := p.isList
      rw [z, g1] at g2
      cases g2
      rw [c1] at c2
      injection c2 with c2
      exact absurd c2 (by decide)
    have ne2 : e ≠ a := fun z => by
      obtain ⟨o2, g2, c2, _⟩ := p.isList
      have h2 : s.heap.get? e = some _ := he
      rw [z, g2] at h2
      have h3 := Option.some.inj h2
      rw [h3] at c2
      injection c2 with c2
      exact absurd c2 (by decide)
    have hel : e < s.heap.objs.size := Heap.lt_size he
    have hil : it < s.heap.objs.size := by obtain ⟨_, q, _⟩ := hit; exact Heap.lt_size q
    have hlen : i < its.toArray.size := by
      have := (List.getElem?_eq_some_iff.mp hu).1
      simpa using this
    refine wpAny_pyNext_enum_itemC (Draws.list (A := X.A.in1) (I.ok.hd hcalm) it a ne1 its.toArray) he ⟨hit, p.isList⟩ hlen hne (by simp [hne, ne2]) fun y h' tk hP ho hs' hT hsz hk => ?_
    have hy : y = u := by
      have z : its[i]? = some y := by simpa using hP
      rw [hu] at z
      exact (Option.some.inj z).symm
    subst hy
    refine ⟨_, rfl, wpAny_letOwnedTupleGo_enum (s := { s with heap := h', toks := tk + 1 }) ho fun h'' he' sb => ?_⟩
    have hT2 : h''.get? s.heap.objs.size = some { cls := .type "tuple", data := .seq #[.int (c + (i : Nat)) tk, y] } := (sb.2 _ (Nat.ne_of_gt hel)).trans hT
    have new : ObjOk X.prog X.w (upd H s.heap.objs.size (.tup [.int (c + (i : Nat)), x])) h'' s.heap.objs.size (.tup [.int (c + (i : Nat)), x]) :=
      ⟨show 2 ≤ sizeLine by decide, [.int (c + (i : Nat)) tk, y], .cons ⟨_, rfl⟩ (.cons ru .nil), ⟨_, hT2, rfl, _, rfl⟩⟩
    have I1 : Inv X pins σ (upd H s.heap.objs.size (.tup [.int (c + (i : Nat)), x])) { s with heap := h'', toks := tk + 1 } :=
      I.turnedNew (ch := [e, it]) (fun b ob hb q => (sb.2 b (fun z => hb (by simp [z]))).trans (hk b ob (fun z => hb (by simp [z])) (fun z => hb (by simp [z])) q)) hf (Nat.le_refl _) new
    refine ⟨.ref s.heap.objs.size, _, I1, rfl, ⟨_, x, rfl, I.hok.fresh (Nat.le_refl _), rfl, fun ys hy => by rw [I.list_inj hy hq]; exact hx⟩, ⟨⟨y, ?_⟩, hs'.1.at fun o q => (sb.2 it (Ne.symm hne)).trans q, hne⟩, fun b hb => ?_⟩
    · have e1 : c + ((i + 1 : Nat) : Int) = c + (i : Nat) + 1 := by omega
      rw [e1]; exact he'
    · have hb' : b < s.heap.objs.size := by
        rcases List.mem_cons.mp hb with z | z
        · rw [z]; exact hel
        · rw [List.mem_singleton.mp z]; exact hil
      rw [upd_ne (Nat.ne_of_lt hb')]
      exact (hf b hb).1
  done := by
    rintro X rfl rfl rfl hcalm i pins s σ H E I hf ⟨⟨old, he⟩, hit, hne⟩ ⟨xs, hq, hx⟩
    obtain ⟨its, rv, p, hz⟩ := I.list hq
    obtain ⟨f0, f1, f2, f3, f4, f5⟩ := hf it (by simp)
    have hl := rv.length
    have ne1 : a ≠ it := fun z => by
      obtain ⟨o1, g1, c1, _⟩ := hit
      obtain ⟨o2, g2, c2, _⟩ := p.isList
      rw [z, g1] at g2
      cases g2
      rw [c1] at c2
      injection c2 with c2
      exact absurd c2 (by decide)
    have hn : i = its.toArray.size := by simp; omega
    exact wpAny_pyNext_enum_endD (Draws.list (A := X.A.in1) (I.ok.hd hcalm) it a ne1 its.toArray) he ⟨hn ▸ hit, p.isList⟩ fun h' eb => ⟨rfl, I.turned (t' := s.toks) (fun b o hb q => eb b o hb q) f0 f1 f3 f4 f5⟩
  self := fun A i s Q E ⟨⟨_, he⟩, _⟩ h => wpAny_pyIter_enum he h
theorem type_kw {M : Model} {A : Around} {E : Value → Shared → Prop} {s : Shared} {env : Env} {pos : Pos} {T : String} {e : Expr} {kws : List Keyword} {Q : Value → Shared → Prop}
    (h : wpAny M A (spliced (backTo pos (starEach [e] env))) (fun vs s1 => wpAny M A (evalAll ((backToKw pos (keywordEach kws env)).map (·.2))) (fun ks s2 => wpAny M A (call (.type T) vs (((backToKw pos (keywordEach kws env)).filterMap (·.1)).zip ks)) Q E s2) E s1) E s)
    (he : backTo pos (starEach [e] env) = (false, eval e env) :: backTo pos (starEach [] env)) (hp : (backTo pos (starEach [e] env)).any (·.1) = false) (ha : (backToKw pos (keywordEach kws env)).all (·.1.isSome) = true) (hn : (backToKw pos (keywordEach kws env)).any (·.1.isNone) = false) :
    wpAny M A (callWith pos (.type T) [] (backTo pos (starEach [e] env)) (backToKw pos (keywordEach kws env))) Q E s := by
  have h2 : wpAny M A (evalArgs (.type T) true (backTo pos (starEach [e] env)) (backToKw pos (keywordEach kws env))) (fun a s1 => wpAny M A (call (.type T) ([] ++ a.pos) a.kw) Q E s1) E s := by
    rw [he] at h ⊢
    exact evalArgs_kwB ha h
  unfold callWith
  refine wpAny_bind (wpAny_holding (wpAny_mono h2 (fun a s1 h1 => wpAny_bind (wpAny_standAt ?_)) fun _ _ x => x))
  simp only [hp, hn, Bool.or_false]
  exact wpAny_bind (wpAny_pure (wpAny_bind (wpAny_mono h1 (fun r s2 hr => wpAny_bind (wpAny_holding (wpAny_point (wpAny_pure hr)))) fun _ _ x => x)))
section
variable {X : Cx}
def iEnumK (K : PySem.W.Frag) (t tk : TA) : TI := fun σ H R => t σ H fun vs H1 => tk σ H1 fun zs H2 => ∃ a xs c, vs = [.ref a] ∧ zs = [.int c] ∧ 0 ≤ c ∧ c < 2 ^ 62 ∧ SqL K H2 a xs ∧ R (IteC K a c) H2
theorem pi_enumK {e : Expr} {kws : List Keyword} {t tk : TA} {p pos tpos : Pos} {elts : List Expr} {kk : Nat} (hg : Gl X "enumerate") (hm : X.mg "enumerate" = none) (ha : PA X [e] t) (hk : PK X kws tk)
    (he : backTo pos (starEach [e] X.env) = (false, eval e X.env) :: backTo pos (starEach [] X.env) := by rfl) (hpl : (backTo pos (starEach [e] X.env)).any (·.1) = false := by rfl)
    (hall : (backToKw pos (keywordEach kws X.env)).all (·.1.isSome) = true := by rfl) (hnone : (backToKw pos (keywordEach kws X.env)).any (·.1.isNone) = false := by rfl) (hks : (backToKw pos (keywordEach kws X.env)).filterMap (·.1) = [Str.ofString "start"] := by rfl) :
    PI X (.Tuple elts kk tpos) (.Call (.Name "enumerate" p) [e] kws pos) (iEnumK X.K t tk) := by
  refine ⟨fun pins s σ H R I h => ?_⟩
  refine wpAny_Call_Name_kw (ld_blt I hg hm boot_enumerate ?_ (by decide) (by decide))
  refine type_kw (thn (ha.run pos pins s σ H _ I h) fun us s1 ⟨vs, H1, I1, r1, q1⟩ => thn (hk.run pos pins s1 σ H1 _ I1 q1) fun ws s2 ⟨zs, H2, I2, r2, a, xs, c, e1, e2, c0, c1, hq, q⟩ => ?_) he hpl hall hnone
  rw [hks]
  subst e1 e2
  obtain rfl := Vals.ref1 r1
  obtain ⟨w1, rfl, t1, rfl⟩ := vals1 r2
  obtain ⟨its, rv, p', hz⟩ := I2.list hq
  have fin : ∀ h', IsEnum h' (s2.heap.objs.size + 1) s2.heap.objs.size c .none → h'.IsListIter s2.heap.objs.size a 0 → (∀ b o, s2.heap.get? b = some o → h'.get? b = some o) → PIE X pins σ (.Tuple elts kk tpos) R (.ref (s2.heap.objs.size + 1)) { s2 with heap := h' } := fun h' hE hit hkk => by
    have I3 : Inv X pins σ H2 { s2 with heap := h' } := I2.kept (t' := s2.toks) hkk
    have z0 : c + ((0 : Nat) : Int) = c := by omega
    refine ⟨s2.heap.objs.size + 1, [s2.heap.objs.size + 1, s2.heap.objs.size], _, _, H2, rfl, I3, turn_enumC a (s2.heap.objs.size + 1) s2.heap.objs.size c, ⟨⟨.none, by rw [z0]; exact hE⟩, hit, Nat.succ_ne_self _⟩, fun b hb => ?_, q⟩
    have hle : s2.heap.objs.size ≤ b := by
      rcases List.mem_cons.mp hb with z | z
      · rw [z]; exact Nat.le_succ _
      · rw [List.mem_singleton.mp z]; exact Nat.le_refl _
    exact I2.fpOk hle (I2.hok.fresh hle)
  show wpAny (model X.prog X.w) X.A (call (.type "enumerate") [.ref a] [(Str.ofString "start", .int c t1)]) _ _ _
  exact enum_begins_start (begins_list a its.toArray) p'.isList (by omega) (by omega) fun h' hE hit hsz hkk => wpAny_pyIter_enum hE (fin h' hE ⟨_, hit, rfl, rfl⟩ hkk)
theorem walk_enumC {K : PySem.W.Frag} {a : Addr} {c : Int} {xs : List V} : Walk (IteC K a c) xs.length (fun H => SqL K H a xs) (YPair (fun i => some (.int (c + (i : Nat)))) (fun i => xs[i]?)) :=
  ⟨fun i _ hi q => ⟨xs, xs[i], q, by simp [hi]⟩, fun _ q => ⟨xs, q, rfl⟩, fun i H v H' _ q ⟨T, x, h1, h2, h3, h4⟩ => ⟨T, .int (c + (i : Nat)), x, h1, h2, h3, rfl, h4 xs q⟩⟩
end
end EN

namespace K16
open PySem L2 SI CM BK OWN MIR StX TX TL
section
variable {w : World} {K : PySem.W.Frag} {mg : Str → Option Value} {base : Heap} (T : Txt w K mg)
def flat4 : V → Bool
  | .int _ => true | .bl _ => true | .str _ => true | .non => true | _ => false
theorem flat4_V {v : V} (h : flat4 v = true) : flatV v = true := by cases v <;> first | rfl | cases h
def top30 : Int := 1000000000000000000000000000000
def stampV : V → Int → Bool
  | .int n, l => decide (l ≤ n) && decide (n ≤ top30)
  | _, _ => false
def spIs : Sp := fun vs H Q _ => ∃ v l, vs = [v, .int l] ∧ flat4 v = true ∧ Q (.bl (stampV v l)) H
theorem ok_is : FnOk PP w K mg base CX0 1 T.f_is_stamp T.d_is_stamp ["number", "least"] spIs := by
  refine T.F_is_stamp.ok sc_is_stamp (fun vs H Q E h => ?_) (fun cdv A outer s H vs Q E hr h => ?_)
  · obtain ⟨v, l, rfl, _⟩ := h
    rfl
  · obtain ⟨v, l, rfl, fv, k⟩ := h
    obtain ⟨tg, hG⟩ := T.g_GREATEST
    refine ⟨_, pss_cons (ps_if (PW.pt (pw_or (pt_val (pe_callB call_isi (by rfl) T.n_isinstance (by decide +kernel) (pa_cons (pv 0) (pa_cons (pe_bltn (v := .ty "bool") (by rfl) T.n_bool (by decide +kernel) rfl) pa_nil))))
        (pw_or1 (pt_not (pt_val (pe_callB call_isi (by rfl) T.n_isinstance (by decide +kernel) (pa_cons (pv 0) (pa_cons (pe_bltn (v := .ty "int") (by rfl) T.n_int (by decide +kernel) rfl) pa_nil)))))))) (pss_one (ps_ret pe_bl)) pss_nil)
      (pss_one (ps_ret (pe_chain op_le op_le (pv 1) (pv 0) (pe_glob (v := .int top30) (by rfl) hG ⟨_, rfl⟩)))), ?_⟩
    cases v with
    | int n =>
      refine ⟨_, rfl, _, _, _, _, false, rfl, ClsV.ty _, .base (.int _), kit_ty (by decide +kernel), _, rfl, ?_⟩
      refine iteF ?_
      refine ⟨_, rfl, _, _, _, _, true, rfl, ClsV.ty _, .base (.int _), kit_ty (by decide +kernel), _, rfl, ?_⟩
      refine iteF ?_
      refine ⟨_, rfl, _, rfl, _, _, rfl, rfl, _, rfl, ?_⟩
      by_cases hl : l ≤ n
      · rw [decide_eq_true hl]
        refine iteT ⟨_, _, rfl, rfl, ?_⟩
        have e : stampV (.int n) l = decide (n ≤ top30) := by simp [stampV, hl]
        rw [e] at k
        exact k
      · rw [decide_eq_false hl]
        refine iteF ?_
        have e : stampV (.int n) l = false := by simp [stampV, hl]
        rw [e] at k
        exact k
    | bl b =>
      refine ⟨_, rfl, _, _, _, _, true, rfl, ClsV.ty _, .base (.bl _), kit_ty (by decide +kernel), _, rfl, ?_⟩
      exact iteT k
    | str x =>
      refine ⟨_, rfl, _, _, _, _, false, rfl, ClsV.ty _, .base (.str _), kit_ty (by decide +kernel), _, rfl, ?_⟩
      refine iteF ?_
      refine ⟨_, rfl, _, _, _, _, false, rfl, ClsV.ty _, .base (.str _), kit_ty (by decide +kernel), _, rfl, ?_⟩
      exact iteT k
    | non =>
      refine ⟨_, rfl, _, _, _, _, false, rfl, ClsV.ty _, .base .non, kit_ty (by decide +kernel), _, rfl, ?_⟩
      refine iteF ?_
      refine ⟨_, rfl, _, _, _, _, false, rfl, ClsV.ty _, .base .non, kit_ty (by decide +kernel), _, rfl, ?_⟩
      exact iteT k
    | _ => cases fv
theorem kbIS : ∃ (g : List Value → List Value → List Value), KBn K T.d_is_stamp ["number", "least"] 1 ["least"] g (fun vs zs => vs ++ zs) := by
  obtain ⟨its, h⟩ := T.F_is_stamp.kbindsD (ps := ["number", "least"]) 1 ["least"] (fun us its ws => us ++ ws) (by simp) (fun r1 _ r3 => r1.append r3)
    fun T kV doc pm an cdv ct us its ws l1 l2 l3 => match us, its, ws, l1, l2, l3 with
      | [_], [_], [_], _, _, _ => ⟨_, rfl, rfl⟩
  exact ⟨_, h⟩
abbrev SIG : Str := "abcdefghijklmnopqrstuvwxyz0123456789"
def nameV : V → Bool
  | .str z => decide (1 ≤ z.length) && (decide (z.length ≤ 8) && (TL.tl z).all fun c => decide (c ∈ TL.tl SIG))
  | _ => false
def spName : Sp := fun vs H Q _ => ∃ v, vs = [v] ∧ flat4 v = true ∧ (∀ z, v = .str z → z.length ≤ 900) ∧ ∀ H', Same H H' → Q (.bl (nameV v)) H'
theorem ok_is_name : FnOk PP w K mg base CX0 1 T.f_is_name T.d_is_name ["name"] spName := by
  refine T.F_is_name.ok sc_is_name (fun vs H Q E h => ?_) (fun cdv A outer s H vs Q E hr h => ?_)
  · obtain ⟨v, rfl, _⟩ := h
    rfl
  · obtain ⟨v, rfl, fv, hz, k⟩ := h
    obtain ⟨t1, hG_LONGEST_NAME⟩ := T.g_LONGEST_NAME
    obtain ⟨t2, hG_SIGNS⟩ := T.g_SIGNS
    refine ⟨_, pss_cons (ps_if (pt_not (pt_val (pe_callB call_isi (by rfl) T.n_isinstance (by decide +kernel) (pa_cons (pv 0) (pa_cons (pe_bltn (v := .ty "str") (by rfl) T.n_str (by decide +kernel) rfl) pa_nil)))))
 (pss_one (ps_ret pe_bl))
 pss_nil)
 (pss_one (ps_ret (pe_and (pe_chain op_le op_le pe_int (pe_callB call_len_str (by rfl) T.n_len PySem.boot_len (pa_cons (pv 0) pa_nil)) (pe_glob (v := .int 8) (by rfl) hG_LONGEST_NAME ⟨_, rfl⟩)) (pe_one (pe_callB (cr_all rfl) (by rfl) T.n_all (by decide +kernel) (pa_cons (pe_lc (own := [("sign", 1)]) (g := gName 1) (tt := tYes) (by rfl) sc_is_name.nd (pi_str (pv 0)) (blkOk_by (N := ["name", "sign"]) (sc := defScope s_is_name) (by decide +kernel)) (fun _ _ _ _ _ => pg_name (i := 1) sc_is_name.nd rfl (Or.inl rfl)) (fun _ _ _ _ _ => pts_nil) (fun _ _ _ _ _ => (pe_cmpR op_in_sign (pv 1) (pe_glob (v := .str "abcdefghijklmnopqrstuvwxyz0123456789") (by rfl) hG_SIGNS ⟨_, rfl⟩) rfl))) pa_nil)))))), ?_⟩
    have k0 := k H (Same.refl H)
    cases v with
    | int n =>
      exact ⟨_, rfl, _, _, _, _, false, rfl, ClsV.ty _, .base (.int _), kit_ty (by decide +kernel), _, rfl, iteT k0⟩
    | bl n =>
      exact ⟨_, rfl, _, _, _, _, false, rfl, ClsV.ty _, .base (.bl _), kit_ty (by decide +kernel), _, rfl, iteT k0⟩
    | non =>
      exact ⟨_, rfl, _, _, _, _, false, rfl, ClsV.ty _, .base .non, kit_ty (by decide +kernel), _, rfl, iteT k0⟩
    | str z =>
      have hzl := hz z rfl
      have hzs : z.length ≤ sizeLine := Nat.le_trans hzl (Nat.le_of_lt (small1000 (by decide)))
      refine ⟨_, rfl, _, _, _, _, true, rfl, ClsV.ty _, .base (.str _), kit_ty (by decide +kernel), _, rfl, iteF ?_⟩
      refine ⟨_, rfl, z, rfl, hzs, _, _, rfl, rfl, _, rfl, ?_⟩
      by_cases c1 : 1 ≤ z.length
      · rw [decide_eq_true (by omega : (1 : Int) ≤ ((z.length : Nat) : Int))]
        refine iteT ⟨_, _, rfl, rfl, _, rfl, ?_⟩
        by_cases c2 : z.length ≤ 8
        · rw [decide_eq_true (by omega : ((z.length : Nat) : Int) ≤ 8)]
          refine iteT ⟨_, rfl, z, rfl, fun D nD => lc_it (walk_str (z := z)) (fun i H' => H' D = some (.lst (((TL.tl z).take i).map fun c => V.bl (decide (c ∈ TL.tl SIG)))) ∧ Same H H') ⟨upd_same, same_new (Same.refl H) nD⟩ (fun _ _ _ _ => trivial) ?_ ?_⟩
          · rintro i x H1 H' hi ⟨hD', sm⟩ ⟨rfl, c', hc', rfl⟩
            refine ⟨rfl, _, rfl, c', _, rfl, rfl, _, hD', small1000 (by rw [List.length_map, List.length_take]; rw [TL.len_tl] at hzl; omega), ?_, fun b o q => ?_⟩
            · rw [upd_same]
              have hc2 : (TL.tl z)[i]? = some c' := by rw [← Array.getElem?_toList] at hc'; exact hc'
              rw [List.take_add_one, hc2, List.map_append]
              rfl
            · rw [upd_ne (ne_of_none q nD)]
              exact sm b o q
          · rintro H' ⟨hD', sm⟩
            have hn : z.cps.size = (TL.tl z).length := by simp [TL.tl]
            rw [hn, List.take_length] at hD'
            refine ⟨D, (TL.tl z).map fun c => decide (c ∈ TL.tl SIG), rfl, SqL.of (by rw [hD', List.map_map] <;> rfl), ?_⟩
            have e0 : nameV (.str z) = ((TL.tl z).map fun c => decide (c ∈ TL.tl SIG)).all id := by
              show (decide (1 ≤ z.length) && (decide (z.length ≤ 8) && _)) = _
              rw [decide_eq_true c1, decide_eq_true c2, List.all_map]; rfl
            have q := k H' sm
            rw [e0] at q
            exact q
        · rw [decide_eq_false (by omega : ¬ ((z.length : Nat) : Int) ≤ 8)]
          have e0 : nameV (.str z) = false := by
            show (decide (1 ≤ z.length) && (decide (z.length ≤ 8) && _)) = _
            rw [decide_eq_false c2, Bool.false_and, Bool.and_false]
          rw [e0] at k0
          exact iteF k0
      · rw [decide_eq_false (by omega : ¬ (1 : Int) ≤ ((z.length : Nat) : Int))]
        have e0 : nameV (.str z) = false := by
          show (decide (1 ≤ z.length) && _) = _
          rw [decide_eq_false c1, Bool.false_and]
        rw [e0] at k0
        exact iteF ⟨_, rfl, iteF k0⟩
    | _ => cases fv
end
end K16

namespace K16
open PySem L2 SI CM BK OWN MIR StX TX TL
section
variable {w : World} {K : PySem.W.Frag} {mg : Str → Option Value} {base : Heap} (T : Txt w K mg)
def stepB : List V → Bool
  | [k, s] => inV k [.str "commit", .str "abort"] && stampV s 1
  | [k, s, n] => inV k [.str "read", .str "write"] && (stampV s 1 && nameV n)
  | _ => false
/-- a part of a run: whether it is a step -/
def PartAt (H : Hp) (v : V) (b : Bool) : Prop := (flat4 v = true ∧ b = false) ∨ ∃ a xs, v = .ref a ∧ H a = some (.tup xs) ∧ (∀ x ∈ xs, flat4 x = true ∧ ∀ z, x = .str z → z.length ≤ 900) ∧ xs.length ≤ 100 ∧ b = stepB xs
theorem PartAt.same {H H' : Hp} {v : V} {b : Bool} (s : Same H H') : PartAt H v b → PartAt H' v b
  | .inl h => .inl h
  | .inr ⟨a, xs, h1, h2, h3⟩ => .inr ⟨a, xs, h1, s _ _ h2, h3⟩
def spIsStep : Sp := fun vs H Q _ => ∃ v b, vs = [v] ∧ PartAt H v b ∧ ∀ H', Same H H' → Q (.bl b) H'
theorem ok_is_step : FnOk PP w K mg base CX0 2 T.f_is_step T.d_is_step ["part"] spIsStep := by
  refine T.F_is_step.ok sc_is_step (fun vs H Q E h => ?_) (fun cdv A outer s H vs Q E hr h => ?_)
  · obtain ⟨v, b, rfl, _⟩ := h
    rfl
  · obtain ⟨v, b, rfl, hp, k⟩ := h
    obtain ⟨g_kbIS, hkbIS⟩ := kbIS T
    refine ⟨_, pss_cons (ps_if (pt_not (pt_val (pe_callB call_isi (by rfl) T.n_isinstance (by decide +kernel) (pa_cons (pv 0) (pa_cons (pe_bltn (v := .ty "tuple") (by rfl) T.n_tuple (by decide +kernel) rfl) pa_nil)))))
 (pss_one (ps_ret pe_bl))
 pss_nil)
 (pss_cons (ps_if (pt_cmpR op_eq (pe_callB call_len_seq (by rfl) T.n_len PySem.boot_len (pa_cons (pv 0) pa_nil)) pe_int (nomark _))
 (pss_one (ps_ret (pe_and (pe_cmpR op_in_seq (pe_ix ix_tup (pv 0) pe_int (fun _ _ => rfl)) (pe_tup (pa_cons pe_str (pa_cons pe_str pa_nil))) rfl) (pe_one (pe_callN (n := 1) (ok_is T) (hr.mono (by decide)) (by rfl) T.g_is_stamp T.F_is_stamp.kp hkbIS pass0 (pa_cons (pe_ix ix_tup (pv 0) pe_int (fun _ _ => rfl)) pa_nil) (pk_cons pe_int pk_nil))))))
 pss_nil)
 (pss_cons (ps_if (pt_cmpR op_eq (pe_callB call_len_seq (by rfl) T.n_len PySem.boot_len (pa_cons (pv 0) pa_nil)) pe_int (nomark _))
 (pss_one (ps_ret (pe_and (pe_cmpR op_in_seq (pe_ix ix_tup (pv 0) pe_int (fun _ _ => rfl)) (pe_tup (pa_cons pe_str (pa_cons pe_str pa_nil))) rfl) (pe_and (pe_callN (n := 1) (ok_is T) (hr.mono (by decide)) (by rfl) T.g_is_stamp T.F_is_stamp.kp hkbIS pass0 (pa_cons (pe_ix ix_tup (pv 0) pe_int (fun _ _ => rfl)) pa_nil) (pk_cons pe_int pk_nil)) (pe_one (pe_call (ok_is_name T) (hr.mono (by decide)) (by rfl) T.g_is_name T.F_is_name.kp (b_is_name T) .nil pass0 (pa_cons (pe_ix ix_tup (pv 0) pe_int (fun _ _ => rfl)) pa_nil)))))))
 pss_nil)
 (pss_one (ps_ret pe_bl)))), ?_⟩
    have k0 := k H (Same.refl H)
    have two : 2 ≤ sizeLine := by decide
    rcases hp with ⟨fv, rfl⟩ | ⟨a, xs, rfl, ha, hf, hl, rfl⟩
    · cases v with
      | int n => exact ⟨_, rfl, _, _, _, _, false, rfl, ClsV.ty _, .base (.int _), kit_ty (by decide +kernel), _, rfl, iteT k0⟩
      | bl n => exact ⟨_, rfl, _, _, _, _, false, rfl, ClsV.ty _, .base (.bl _), kit_ty (by decide +kernel), _, rfl, iteT k0⟩
      | non => exact ⟨_, rfl, _, _, _, _, false, rfl, ClsV.ty _, .base .non, kit_ty (by decide +kernel), _, rfl, iteT k0⟩
      | str n => exact ⟨_, rfl, _, _, _, _, false, rfl, ClsV.ty _, .base (.str _), kit_ty (by decide +kernel), _, rfl, iteT k0⟩
      | _ => cases fv
    · refine ⟨_, rfl, _, _, _, _, true, rfl, ClsV.ty _, .base (.tup ha), kit_ty (by decide +kernel), _, rfl, iteF ?_⟩
      refine ⟨_, rfl, a, xs, rfl, .inr (SqT.of ha), rfl, _, rfl, ?_⟩
      have di : ∀ i j : Int, decide (V.int i = V.int j) = decide (i = j) := fun i j => decide_eq_decide.mpr ⟨V.int.inj, congrArg _⟩
      rw [di]
      by_cases c2 : xs.length = 2
      · obtain ⟨x, y, rfl⟩ : ∃ x y, xs = [x, y] := by
          match xs, c2 with
          | [x, y], _ => exact ⟨x, y, rfl⟩
        rw [decide_eq_true (by rfl)]
        refine iteT ⟨_, rfl, a, _, _, x, rfl, rfl, SqT.of ha, rfl, two, fun t nt => ⟨t, _, rfl, .inr (SqT.of upd_same), flat4_V (hf x (by simp)).1, rfl, _, rfl, ?_⟩⟩
        have s1 := same_new (o := .tup [.str "commit", .str "abort"]) (Same.refl H) nt
        have k1 := k _ s1
        cases c : inV x [V.str "commit", V.str "abort"] with
        | true =>
          have e0 : stepB [x, y] = stampV y 1 := by show (inV x [V.str "commit", V.str "abort"] && _) = _; rw [c, Bool.true_and]
          rw [e0] at k1
          exact iteT ⟨_, rfl, a, _, _, y, rfl, rfl, SqT.of (s1 _ _ ha), rfl, rfl, rfl, y, 1, rfl, (hf y (by simp)).1, k1⟩
        | false =>
          have e0 : stepB [x, y] = false := by show (inV x [V.str "commit", V.str "abort"] && _) = _; rw [c, Bool.false_and]
          rw [e0] at k1
          exact iteF k1
      · rw [decide_eq_false (by omega : ¬ ((xs.length : Nat) : Int) = 2)]
        refine iteF ⟨_, rfl, a, xs, rfl, .inr (SqT.of ha), rfl, _, rfl, ?_⟩
        rw [di]
        by_cases c3 : xs.length = 3
        · obtain ⟨x, y, n, rfl⟩ : ∃ x y n, xs = [x, y, n] := by
            match xs, c3 with
            | [x, y, n], _ => exact ⟨x, y, n, rfl⟩
          rw [decide_eq_true (by rfl)]
          refine iteT ⟨_, rfl, a, _, _, x, rfl, rfl, SqT.of ha, rfl, two, fun t nt => ⟨t, _, rfl, .inr (SqT.of upd_same), flat4_V (hf x (by simp)).1, rfl, _, rfl, ?_⟩⟩
          have s1 := same_new (o := .tup [.str "read", .str "write"]) (Same.refl H) nt
          have k1 := k _ s1
          cases c : inV x [V.str "read", V.str "write"] with
          | false =>
            have e0 : stepB [x, y, n] = false := by show (inV x [V.str "read", V.str "write"] && _) = _; rw [c, Bool.false_and]
            rw [e0] at k1
            exact iteF k1
          | true =>
            have e0 : stepB [x, y, n] = (stampV y 1 && nameV n) := by show (inV x [V.str "read", V.str "write"] && _) = _; rw [c, Bool.true_and]
            refine iteT ⟨_, rfl, a, _, _, y, rfl, rfl, SqT.of (s1 _ _ ha), rfl, rfl, rfl, y, 1, rfl, (hf y (by simp)).1, _, rfl, ?_⟩
            cases c1 : stampV y 1 with
            | false =>
              rw [e0, c1, Bool.false_and] at k1
              exact iteF k1
            | true =>
              rw [c1, Bool.true_and] at e0
              exact iteT ⟨_, rfl, a, _, _, n, rfl, rfl, SqT.of (s1 _ _ ha), rfl, n, rfl, (hf n (by simp)).1, (hf n (by simp)).2, fun H' s2 => by have := k H' (s1.trans s2); rw [e0] at this; exact this⟩
        · rw [decide_eq_false (by omega : ¬ ((xs.length : Nat) : Int) = 3)]
          have e0 : stepB xs = false := by
            match xs, c2, c3 with
            | [], _, _ => rfl
            | [_], _, _ => rfl
            | [_, _], c, _ => exact absurd rfl c
            | [_, _, _], _, c => exact absurd rfl c
            | _ :: _ :: _ :: _ :: _, _, _ => rfl
          rw [e0] at k0
          exact iteF k0
end
end K16

namespace K16
open PySem L2 SI CM BK OWN MIR StX TX TL
section
variable {w : World} {K : PySem.W.Frag} {mg : Str → Option Value} {base : Heap} (T : Txt w K mg)
def spE1i (C : Addr) (f : Str) : Sp := fun vs H Q _ => ∃ (a : Addr) (i : Nat), vs = [.ref a, .int (i : Int)] ∧ H a = some (exo a C none) ∧ i < 1000 ∧ ∀ dx, H dx = none → dx ≠ a → Q .non (upd (upd H dx (exd dx [(f, .int (i : Int))])) a (exo a C (some dx)))
theorem num_short : ∀ i, i < 1000 → (Str.ofString (toString ((i : Nat) : Int))).length ≤ 50 ∧ ((i : Nat) : Int).natAbs.log2 < 1920 := by
  have h : ((List.range 1000).all fun i => decide ((Str.ofString (toString ((i : Nat) : Int))).length ≤ 50 ∧ ((i : Nat) : Int).natAbs.log2 < 1920)) = true := by decide +kernel
  intro i hi
  exact of_decide_eq_true (List.all_eq_true.mp h i (List.mem_range.mpr hi))
theorem str_len_app (a b : Str) : (a ++ b).length = a.length + b.length := by
  show (a.cps ++ b.cps).size = _
  exact Array.size_append
theorem ok_BadStep : FnOk PP w K mg base CX0 1 T.f_BadStep_init T.d_BadStep_init ["self", "index"] (spE1i T.c_BadStep "index") := by
  refine ok_sup (N := ["self", "index", "__class__"]) T.S_BadStep_init sc_BadStep_init rfl (show (defScope s_BadStep_init).names.lookup ("super" : Str) = some .globalImplicit by decide +kernel) rfl rfl (fun vs H Q E h => ?_) (fun A outer s H vs Q E hr h => ?_)
  · obtain ⟨a, i, rfl, _⟩ := h
    rfl
  · obtain ⟨a, i, rfl, ha, hi, k⟩ := h
    obtain ⟨n1, n2⟩ := num_short i hi
    refine ⟨a, _, _, _, pa_cons (pe_joined (.cons pe_str (.cons (pe_fmt (pv 1)) .nil))) pa_nil, pss_one (ps_ost (pv 0) (pv 1)), rfl, fun M B u Q' E' s' z => PySem.Calls.evalArgs_plain z, rfl, rfl, rfl, ha, ?_⟩
    refine ⟨_, rfl, (by decide +kernel : (Str.empty ++ Str.ofString "no step at index ").length ≤ sizeLine), _, rfl, .inr ⟨i, rfl, n2, _, rfl, ?_, by show 1 ≤ 1000; decide, ha, ?_⟩⟩
    · show (Str.empty ++ Str.ofString "no step at index " ++ Str.ofString (toString (i : Int))).length ≤ sizeLine
      rw [str_len_app]
      have h1 : (Str.empty ++ Str.ofString "no step at index ").length = 17 := by decide +kernel
      rw [h1]
      exact Nat.le_of_lt (small1000 (by omega))
    · exact ⟨_, rfl, _, rfl, _, _, rfl, T.oex_BadStep, T.na_BadStep_index, .inl ⟨ha, fun dx n ne => k dx n ne⟩⟩
theorem rz1i {C : Addr} {H : Hp} {i : Nat} {f : Str} {E : XK} (hi : i < 1000) (kF : ∀ d, H d = none → E (.ref C) (some d) (upd H d (.xd [(f, .int (i : Int))]))) :
    (1 : Nat) ≤ 1000 ∧ ∀ a, H a = none → spE1i C f ([V.ref a, .int (i : Int)] ++ []) (upd H a (exo a C none)) (fun x H1 => x = .non ∧ ∃ d fs, H1 a = some (exo a C (some d)) ∧ H1 d = some (exd d fs) ∧ H d = none ∧ E (.ref C) (some d) (upd (del H1 a) d (.xd fs))) E0 := by
  refine ⟨by decide, fun a ha => ⟨a, i, rfl, upd_same, hi, fun d hd hne => ⟨rfl, d, [(f, .int (i : Int))], upd_same, ?_, ?_, ?_⟩⟩⟩
  · rw [upd_ne hne, upd_same]
  · rw [upd_ne hne] at hd
    exact hd
  · rw [upd_ne hne] at hd
    have z := kF d hd
    rw [raise_heap ha]
    exact z
/-- the parts of a run -/
def PartsAt (H : Hp) : List V → List Bool → Prop := F2 (PartAt H)
def spCheckRun (K : PySem.W.Frag) (C : Addr) : Sp := fun vs H Q E => ∃ (a : Addr) (xs : List V) (bs : List Bool), vs = [.ref a] ∧ SqL K H a xs ∧ PartsAt H xs bs ∧ xs.length ≤ 900 ∧ ((∀ b ∈ bs, b = true) → ∀ H', Same H H' → Q .non H') ∧
  ∀ i, bs[i]? = some false → (∀ j, j < i → bs[j]? = some true) → ∀ H' x, Same H H' → H x = none → H' x = some (.xd [(("index" : Str), .int (i : Nat))]) → E (.ref C) (some x) H'
theorem ok_check_run : FnOk PP w K mg base (L2.CX PP w) 4 T.f_check_run T.d_check_run ["run"] (spCheckRun K T.c_BadStep) := by
  refine T.F_check_run.okX sc_check_run (fun vs H Q E h => ?_) (fun cdv A outer s H vs Q E hr h => ?_)
  · obtain ⟨a, xs, bs, rfl, _⟩ := h
    rfl
  · obtain ⟨a, xs, bs, rfl, hS, hP, hl, kT, kF⟩ := h
    refine ⟨_, pss_one (ps_for (passes_of rfl) rfl (pi_enum (by rfl) T.n_enumerate (pa_cons (pv 0) pa_nil)) (pg_tup rfl (pgs_cons (pg_name (i := 1) sc_check_run.nd rfl (.inl rfl)) (pgs_cons (pg_name (i := 2) sc_check_run.nd rfl (.inl rfl)) pgs_nil)))
 (pss_one (ps_if (pt_not (pt_val (pe_call (ok_is_step T) (hr.mono (by decide)) (by rfl) T.g_is_step T.F_is_step.kp (b_is_step T) .nil pass0 (pa_cons (pv 2) pa_nil))))
 (pss_one (ps_raise rfl (takes_of rfl rfl rfl rfl) (pmk_oex T.oex_BadStep T.i_BadStep_init T.t_BadStep_init (ok_BadStep T) (hr.mono (by decide)) (b_BadStep_init T) .nil pass0 (by rfl) T.g_BadStep (pa_cons (pv 1) pa_nil))))
 pss_nil))), ?_⟩
    refine ⟨_, rfl, a, xs, rfl, hS, for_it (walk_enum (xs := xs)) (fun i τ H' => ∃ v1 v2, τ = [some (.ref a), v1, v2] ∧ Same H H' ∧ ∀ j, j < i → bs[j]? = some true)
      ⟨none, none, rfl, Same.refl H, fun j hj => absurd hj (Nat.not_lt_zero _)⟩ (fun i τ H' _ ⟨_, _, _, sm, _⟩ => sm.seq hS) ?_ ?_⟩
    · rintro i x τ H1 H2 hi ⟨v1, v2, rfl, sm, hb⟩ ⟨T', x1, x2, rfl, nT, rfl, e1, e2⟩
      cases e1
      obtain ⟨b, eb, hpb⟩ := hP.at e2
      have s2 := same_new (o := .tup [.int ((i : Nat) : Int), x2]) sm nT
      refine ⟨T', _, rfl, SqT.of upd_same, rfl, _, _, rfl, _, _, rfl, rfl, ?_⟩
      refine ⟨_, rfl, x2, b, rfl, hpb.same s2, fun H3 s3 => ⟨_, rfl, ?_⟩⟩
      cases b with
      | true =>
        refine iteF ⟨_, _, rfl, s2.trans s3, fun j hj => ?_⟩
        rcases Nat.lt_or_ge j i with h | h
        · exact hb j h
        · obtain rfl : j = i := by omega
          exact eb
      | false =>
        have s23 := s2.trans s3
        exact iteT ⟨_, rfl, rz1i (by omega) fun d hd => kF i eb hb _ d (same_new s23 hd) (s23.free hd) upd_same⟩
    · rintro τ H1 ⟨v1, v2, rfl, sm, hb⟩
      refine kT (fun b hbm => ?_) H1 sm
      obtain ⟨j, hj, e⟩ := List.mem_iff_getElem.mp hbm
      have := hb j (by rw [hP.len]; exact hj)
      rw [List.getElem?_eq_getElem hj, e] at this
      exact Option.some.inj this
end
end K16

/-! `raise X(..) from Y(..)`, both own classes with an own __init__, outside of any except suite. -/
namespace RFM
open PySem PySem.Spec PyProof.Rows L2
/-- the raised one's record, its cause set -/
def caused (h : Heap) (a : Addr) (c : Value) : Heap := (h.update a (Obj.mapFields (·.setIfInBounds 3 c))).update a (Obj.mapFields (·.setIfInBounds 4 (.bool true)))
theorem caused_at {h : Heap} {a : Addr} {c : Value} {oe : Obj} {vs : Array Value} (ha : h.get? a = some oe) (hd : oe.data = .fields vs) :
    (caused h a c).get? a = some ((oe.mapFields (·.setIfInBounds 3 c)).mapFields (·.setIfInBounds 4 (.bool true))) ∧ ((oe.mapFields (·.setIfInBounds 3 c)).mapFields (·.setIfInBounds 4 (.bool true))).data = .fields ((vs.setIfInBounds 3 c).setIfInBounds 4 (.bool true)) := by
  have d3 := Obj.data_mapFields hd (·.setIfInBounds 3 c)
  have a3 := Heap.get?_update_self (Obj.mapFields (·.setIfInBounds 3 c)) ha (Obj.isFreed_of_fields d3)
  have d4 := Obj.data_mapFields d3 (·.setIfInBounds 4 (.bool true))
  exact ⟨Heap.get?_update_self (Obj.mapFields (·.setIfInBounds 4 (.bool true))) a3 (Obj.isFreed_of_fields d4), d4⟩
theorem caused_other {h : Heap} {a b : Addr} {c : Value} (n : a ≠ b) : (caused h a c).get? b = h.get? b := by
  unfold caused
  rw [Heap.get?_update_other _ _ n, Heap.get?_update_other _ _ n]
section
variable {M : Model} {A : Around} {E : Value → Shared → Prop} {s : Shared}
theorem no_type {a : Addr} {oe : Obj} {vs : Array Value} {Q : Bool → Shared → Prop} (ha : s.heap.get? a = some oe) (hd : oe.data = .fields vs) (q : Q false s) : wpAny M A (isType (.ref a)) Q E s := by
  simp only [isType, loadHead]
  refine wpAny_bind (wpAny_loadPart ha ?_)
  rw [hd]; exact wpAny_pure q
theorem is_exc {a : Addr} {oe : Obj} {vs : Array Value} {cls : Value} {t : String} {Q : Value → Shared → Prop} (ha : s.heap.get? a = some oe) (hd : oe.data = .fields vs) (hc : oe.cls = cls) (L : PySem.W.Looks M s.heap (isSubtype cls (.type "BaseException")) true) (q : Q (.ref a) s) :
    wpAny M A (excFromValue (.ref a) t) Q E s := by
  have LT : PySem.W.Looks M s.heap (typeOf (.ref a)) cls := fun A Q E s k q => wpAny_typeOf_ref (k _ _ ha) (by rw [hc]; exact q)
  have LI : PySem.W.Looks M s.heap (isInstance (.ref a) (.type "BaseException")) true := LT.andThen L
  unfold excFromValue isExcClass
  refine wpAny_bind (wpAny_bind (no_type ha hd ?_))
  simp only [Bool.false_eq_true, if_false]
  refine wpAny_pure ?_
  simp only [Bool.false_eq_true, if_false]
  refine wpAny_bind (LI.here ?_)
  simp only [if_true]
  exact wpAny_pure q
theorem raise_both {env : Env} {x c : Sem Value} {Q : Flow → Shared → Prop} (hh : A.handled = none)
    (h : wpAny M A x (fun v s1 => wpAny M A c (fun u s2 => ∃ a b oe ob vs ws cls clb, v = .ref a ∧ u = .ref b ∧ s2.heap.get? a = some oe ∧ oe.cls = cls ∧ oe.data = .fields vs ∧ vs[1]? = some .none ∧ 4 < vs.size ∧ s2.heap.get? b = some ob ∧ ob.cls = clb ∧ ob.data = .fields ws ∧
      PySem.W.Looks M s2.heap (isSubtype cls (.type "BaseException")) true ∧ PySem.W.Looks M s2.heap (isSubtype clb (.type "BaseException")) true ∧ PySem.W.Looks M (caused s2.heap a (.ref b)) (typeOf cls) (.type "type") ∧ E (.ref a) { s2 with heap := caused s2.heap a (.ref b) }) E s1) E s) :
    wpAny M A (raiseStmt env (some x) (some c)) Q E s := by
  unfold raiseStmt
  dsimp only
  refine wpAny_bind (wpAny_mono h (fun v s1 h1 => ?_) fun _ _ z => z)
  refine wpAny_bind (wpAny_holding (wpAny_mono h1 (fun u s2 h2 => ?_) fun _ _ z => z))
  obtain ⟨a, b, oe, ob, vs, ws, cls, clb, rfl, rfl, ha, hcls, hd, h1', hi, hb, hclb, hdb, L1, L2', L3, hE⟩ := h2
  refine wpAny_bind (wpAny_pure ?_)
  dsimp only
  refine wpAny_bind (wpAny_holding (is_exc ha hd hcls L1 ?_))
  rw [if_neg (show ¬ (Value.ref b == Value.none) = true by rw [show (Value.ref b == Value.none) = false from rfl]; exact Bool.false_ne_true)]
  refine wpAny_bind (wpAny_holding (is_exc hb hdb hclb L2' ?_))
  have d3 := Obj.data_mapFields hd (·.setIfInBounds 3 (Value.ref b))
  have a3 := Heap.get?_update_self (Obj.mapFields (·.setIfInBounds 3 (Value.ref b))) ha (Obj.isFreed_of_fields d3)
  have s3 : 3 < vs.size := by omega
  have s4 : 4 < (vs.setIfInBounds 3 (Value.ref b)).size := by rw [HotX.set_size]; exact hi
  refine wpAny_bind (wpAny_setField ha hd s3 (wpAny_bind (wpAny_setField a3 d3 s4 ?_)))
  obtain ⟨a4, d4⟩ := caused_at (c := .ref b) ha hd
  have h14 : ((vs.setIfInBounds 3 (Value.ref b)).setIfInBounds 4 (Value.bool true))[1]? = some Value.none := HotX.set_other (by decide) (HotX.set_other (by decide) h1')
  have c4 : ((oe.mapFields (·.setIfInBounds 3 (Value.ref b))).mapFields (·.setIfInBounds 4 (.bool true))).cls = cls := by rw [Obj.cls_mapFields, Obj.cls_mapFields]; exact hcls
  have LT4 : PySem.W.Looks M (caused s2.heap a (.ref b)) (typeOf (.ref a)) cls := fun A Q E s k q => wpAny_typeOf_ref (k _ _ a4) (by rw [c4]; exact q)
  refine wpAny_bind (no_type (s := { s2 with heap := caused s2.heap a (.ref b) }) a4 d4 ?_)
  simp only [Bool.false_eq_true, if_false]
  unfold raisedInstance
  refine wpAny_bind (wpAny_bind (LT4.here (wpAny_bind (L3.here ?_))))
  rw [if_pos (beq_self_eq_true _)]
  refine wpAny_pure ?_
  unfold setFlight raiseNew
  refine wpAny_bind (wpAny_bind (wpAny_field a4 d4 h14 ?_))
  rw [if_neg (by decide)]
  refine wpAny_pure (wpAny_bind (wpAny_handled ?_))
  rw [hh]
  first
    | exact wpAny_throw hE
    | exact wpAny_bind (wpAny_pure (wpAny_throw hE))
end
/-- made, and its record has all its places -/
def MkP6 (X : Cx) (pins : List (Addr × Obj)) (σ : L2.St) (Q : XK) (u : Value) (s' : Shared) : Prop := L2.MkP X pins σ Q u s' ∧ L2H.Six u s'
def PMk6 (X : Cx) (e : Expr) (t : L2.St → Hp → XK → Prop) : Prop :=
  ∀ (pins : List (Addr × Obj)) (s : Shared) (σ : L2.St) (H : Hp) (Q : XK), Inv X pins σ H s → t σ H Q → wpAny (model X.prog X.w) X.A (eval e X.env) (MkP6 X pins σ Q) X.xe s
section
variable {X : Cx} {e : Expr} {es : List Expr} {ta : TA} {p pos : Pos}
theorem pmk6_oex {CX : CXT} {x : Str} {C fI : Addr} {k : Nat} {fd : FuncData} {ps : List Str} {sp : Sp} {ds : List Value} {dvs : List V} (T : OexC X.K C) (iC : PySem.W.findIn X.K (.ref C) "__init__" = some (some (.ref fI))) (tI : PySem.W.typeIn X.K (.ref fI) = some (.type "function"))
    (F1 : FnOk X.prog X.w X.K X.mg X.base CX k fI fd ps sp) (hr : Room (k + 1) X.A) (hb : Binds X.K fd ps ds) (hd : Vals dvs ds) (hx : Passes CX X (fun _ _ _ => False)) (hg : Gl X x) (hm : X.mg x = some (.ref C)) (ha : PA X (e :: es) ta)
    (hdb : (x == ("__debug__" : Str)) = false := by decide) (he : starEach (e :: es) X.env = (false, eval e X.env) :: starEach es X.env := by rfl) (hpl : (backTo pos (starEach es X.env)).any (·.1) = false := by rfl) :
    PMk6 X (.Call (.Name x p) (e :: es) [] pos) (tMkO C sp dvs ta) := by
  intro pins s σ H Q I h
  obtain ⟨nm, q, N, bs, bm, sn, sub, ab, col, dd, k0, k1, k2, k3, k5, hC, hbm⟩ := T.cls
  refine wpAny_Call_Name_kw (ld_glob I hg hm ?_ hdb)
  refine PySem.W.callWith_K (h₀ := X.base) I.ok.mod.kin T.kC (thn (ha.run pos pins s σ H _ I h) fun us s1 ⟨vs, H1, I1, r1, hz, q1⟩ => ⟨I1.kIn, ?_⟩) he hpl
  show wpAny _ _ (call (.ref C) us) _ _ _
  obtain ⟨hp, g, dr, tk, os⟩ := s1
  have hsz : hp.objs.size ≤ hp.objs.size + 1 := Nat.le_succ _
  have hn : H1 (hp.objs.size + 1) = none := I1.hok.fresh hsz
  have hq := q1 (hp.objs.size + 1) hn
  have kk : ∀ b o, hp.get? b = some o → ((hp.push (PySem.W.kdv_tup us)).push (PySem.HandSPX.excO C hp.objs.size)).get? b = some o := fun b o z => Heap.get?_push_of_some _ (Heap.get?_push_of_some _ z)
  have hget : ((hp.push (PySem.W.kdv_tup us)).push (PySem.HandSPX.excO C hp.objs.size)).get? (hp.objs.size + 1) = some (PySem.HandSPX.excO C hp.objs.size) := by heap_get
  have I2 : Inv X pins σ (upd H1 (hp.objs.size + 1) (exo (hp.objs.size + 1) C none)) ⟨(hp.push (PySem.W.kdv_tup us)).push (PySem.HandSPX.excO C hp.objs.size), g, dr, tk, os⟩ :=
    I1.laid (t' := tk) (a := hp.objs.size + 1) (o := exo (hp.objs.size + 1) C none) (h' := (hp.push (PySem.W.kdv_tup us)).push (PySem.HandSPX.excO C hp.objs.size)) kk hsz (exo_ok hget)
  have r2 : Vals (V.ref (hp.objs.size + 1) :: (vs ++ dvs)) (Value.ref (hp.objs.size + 1) :: (us ++ ds)) := .cons rfl (r1.append hd)
  have hl : (Value.ref (hp.objs.size + 1) :: us ++ ds).length = ps.length := by
    have z := r2.length
    rw [F1.len _ _ _ _ hq] at z
    exact z.symm
  have hus : us.length ≤ sizeLine := by
    rw [← Paired.length r1, sizeLine_eq]
    omega
  refine wpAny_call (PySem.HandSPX.call_own F.excBase_ValueError (fun Y => PySem.HandSPX.refsVE_contains Y bm hbm) (I1.kIn _ _ hC) (PySem.W.looks_findIn I1.kIn iC) (fun self => PySem.W.bind_fn I1.kIn self tI) hus
    (codeAny_mono (F1.run _ X.stack _ _ ⟨Value.ref (hp.objs.size + 1) :: us, []⟩ (Value.ref (hp.objs.size + 1) :: (us ++ ds)) _ _ (fun _ _ _ => False) (hr.make C us []) (I2.env0.make C us []) (hb _ (Value.ref (hp.objs.size + 1) :: us) I2.kIn hl) r2 hq) fun r s' hq' => ?_))
  cases r with
  | error er => exact hx pins σ _ _ er s' I2 hq'
  | ok fl =>
    cases fl with
    | ret u =>
      obtain ⟨v, H2, os2, bare2, un2, hok2, rv, ev, d, fs, ea, ed, hd1, q2⟩ := hq'
      subst ev
      obtain ⟨h2, g2, d2, t2, os'⟩ := s'
      refine ⟨rv, mk_end (raises_own T.exC T.tyC) I1 hsz kk un2 hok2 os2 bare2 ea ed hd1 q2, fun a oe ws ea' hg' hd' => ?_⟩
      obtain ⟨t0, G, J, kG, ge, hoe, na⟩ := mk_end0 (d2 := d2) (t2 := t2) I1 hsz kk un2 hok2 os2 bare2 ea ed hd1
      cases ea'
      have hg' : h2.get? (hp.objs.size + 1) = some oe := hg'
      rw [hoe] at hg'
      cases hg'
      cases hd'
      show (4 : Nat) < 6
      decide
    | next => exact False.elim hq'
    | brk => exact False.elim hq'
    | cont => exact False.elim hq'
end
/-- raise X(..) from Y(..) -/
theorem ps_raiseF {X : Cx} {W : WX} {e c : Expr} {t1 t2 : L2.St → Hp → XK → Prop} {pos : Pos} (hc : X.calm = true) (hex : X.ex = []) (hst : X.stack = X.env :: X.outer) (tk : Takes X W) (he : PMk6 X e t1) (hce : PMk6 X c t2) :
    PS X (.Raise (some e) (some c) pos) (fun _ σ H => t1 σ H fun cls d H1 => t2 σ H1 fun _ _ H2 => W cls d σ H2) := by
  refine ⟨fun pins s σ H D I h => ?_⟩
  show wpAny _ _ (do standAt pos; raiseStmt X.env (some (do let v ← eval e X.env; standAt pos; pure v)) (some (do let v ← eval c X.env; standAt pos; pure v))) _ _ _
  refine wpAny_bind (wpAny_standAt (raise_both (I.ok.hd hc) (wpAny_bind (wpAny_mono (he pins s σ H _ I h) (fun u s1 hu => wpAny_bind (wpAny_standAt (wpAny_pure ?_))) fun _ _ x => x))))
  obtain ⟨⟨a, oe, vs, sI, H1, cls, d, rfl, J, k, hne, ha, hz, hd, h1, na, os, ag, r, q⟩, six⟩ := hu
  have J1 : Inv X pins σ H1 s1 := J.call' (ch := []) os (Un.kept k) (J.hok.kept k) ag (fun b z => absurd z (by simp))
  have nL : a ≠ X.env.locals := fun z => by
    obtain ⟨m, ⟨o, es, ep, e1, _, _⟩, _⟩ := J.loc
    rw [← z, hne] at e1
    cases e1
  have nF : a ∉ X.fs := fun hm => by
    have hm2 : a ∈ frs X.stack := by
      rw [hst]
      obtain ⟨f, hf, q'⟩ := List.mem_filterMap.mp hm
      exact List.mem_filterMap.mpr ⟨f, List.mem_cons_of_mem _ hf, q'⟩
    obtain ⟨_, o', e', _⟩ := J.stack.mem hm2
    rw [hne] at e'
    cases e'
  have J1p : Inv X (pins ++ [(a, oe)]) σ H1 s1 := J1.pins_of fun p hp => by
    rcases List.mem_append.mp hp with hp | hp
    · exact J1.pin p (List.mem_append_right _ hp)
    · rw [List.mem_singleton.mp hp]
      exact ⟨ha, na, nL, nF, fun v z => by rw [hd] at z; cases z⟩
  refine wpAny_bind (wpAny_mono (hce _ s1 σ H1 _ J1p q) (fun u2 s2 hu2 => wpAny_bind (wpAny_standAt (wpAny_pure ?_))) fun _ _ x => x)
  obtain ⟨⟨b, ob, ws, sI2, H2, clb, db, rfl, J2, k2, hne2, hb, hz2, hd2, h12, nb, os2, ag2, r2, q2⟩, _⟩ := hu2
  have P := J2.pin (a, oe) (List.mem_append_right _ (List.mem_append_right _ (List.mem_singleton.mpr rfl)))
  have ha2 : s2.heap.get? a = some oe := k2 _ _ P.1
  have J2' : Inv X pins σ H2 sI2 := J2.unpinned
  obtain ⟨G, g1, g2⟩ := restrict sI2.heap fun x => decide (x ≠ a)
  have gk : ∀ x, x ≠ a → G.get? x = sI2.heap.get? x := fun x hx => g1 x (decide_eq_true hx)
  have ge : G.get? a = none := g2 a (by simp)
  have sub : ∀ x o, G.get? x = some o → sI2.heap.get? x = some o := fun x o z => by
    by_cases hx : x = a
    · rw [hx, ge] at z; cases z
    · exact (gk x hx).symm.trans z
  have h0 : ∀ x o, X.s_0.heap.get? x = some o → x ≠ a ∧ x ≠ a := fun x o z => by
    obtain ⟨o', z'⟩ := J.base.there x o z (by rw [hex]; simp)
    have n : x ≠ a := fun y => by rw [y, hne] at z'; cases z'
    exact ⟨n, n⟩
  have hp : ∀ p ∈ X.pn ++ pins, p.1 ≠ a ∧ p.1 ≠ a := fun p hp => by
    have z := (J.pin p hp).1
    have n : p.1 ≠ a := fun y => by rw [y, hne] at z; cases z
    exact ⟨n, n⟩
  have JG : Inv X pins σ H2 { sI2 with heap := G } := J2'.less (a := a) (b := a) sub (fun x o hx _ z => (gk x hx).trans z) ⟨oe, vs, P.1, hd⟩ ⟨oe, vs, P.1, hd⟩ P.2.1 P.2.1 h0 hp
  have sz : 4 < vs.size := six a oe vs rfl ha hd
  obtain ⟨a4, d4⟩ := caused_at (c := .ref b) ha2 hd
  have kG : ∀ x o, G.get? x = some o → (caused s2.heap a (.ref b)).get? x = some o := fun x o z => by
    have n : a ≠ x := fun y => by rw [← y, ge] at z; cases z
    rw [caused_other n]
    exact k2 _ _ (sub x o z)
  have h14 : ((vs.setIfInBounds 3 (Value.ref b)).setIfInBounds 4 (Value.bool true))[1]? = some Value.none := HotX.set_other (by decide) (HotX.set_other (by decide) h1)
  exact ⟨a, b, oe, ob, vs, ws, cls, clb, rfl, rfl, ha2, hz.1, hd, h1, sz, hb, hz2.1, hd2, (r _ _ (J2.kIn.keeps k2)).1, (r2 _ _ (J2.kIn.keeps k2)).1, (r _ _ (JG.kIn.keeps kG)).2,
    tk _ _ (XE.new JG kG ge a4 ⟨by rw [Obj.cls_mapFields, Obj.cls_mapFields]; exact hz.1, by rw [HandSPX.dict_mapFields, HandSPX.dict_mapFields]; exact hz.2⟩ d4 h14 P.2.1 os2 ag2 q2)⟩
end RFM

namespace K16
open PySem L2 SI CM BK OWN MIR StX TX TL
section
variable {w : World} {K : PySem.W.Frag} {mg : Str → Option Value} {base : Heap} (T : Txt w K mg)
def NumOk (n : Int) : Prop := n.natAbs.log2 < 1920
theorem num_len {n : Int} (h : NumOk n) : (Str.ofString (toString n)).length ≤ 1921 := by
  have e := int_text_length_le (k := 1920) (by decide) h
  rw [ofString_length]
  exact e
/-- an error about a stamp -/
def spEn (C : Addr) (f : Str) : Sp := fun vs H Q _ => ∃ (a : Addr) (n : Int), vs = [.ref a, .int n] ∧ H a = some (exo a C none) ∧ NumOk n ∧ ∀ dx, H dx = none → dx ≠ a → Q .non (upd (upd H dx (exd dx [(f, .int n)])) a (exo a C (some dx)))
theorem rzn {C : Addr} {H : Hp} {n : Int} {f : Str} {E : XK} (hn : NumOk n) (kF : ∀ d, H d = none → E (.ref C) (some d) (upd H d (.xd [(f, .int n)]))) :
    (1 : Nat) ≤ 1000 ∧ ∀ a, H a = none → spEn C f ([V.ref a, .int n] ++ []) (upd H a (exo a C none)) (fun x H1 => x = .non ∧ ∃ d fs, H1 a = some (exo a C (some d)) ∧ H1 d = some (exd d fs) ∧ H d = none ∧ E (.ref C) (some d) (upd (del H1 a) d (.xd fs))) E0 := by
  refine ⟨by decide, fun a ha => ⟨a, n, rfl, upd_same, hn, fun d hd hne => ⟨rfl, d, [(f, .int n)], upd_same, ?_, ?_, ?_⟩⟩⟩
  · rw [upd_ne hne, upd_same]
  · rw [upd_ne hne] at hd
    exact hd
  · rw [upd_ne hne] at hd
    have z := kF d hd
    rw [raise_heap ha]
    exact z
theorem lit_len {x : Str} {n : Nat} (h : x.length = n) (l : n ≤ 900) : x.length ≤ sizeLine := by rw [h]; exact Nat.le_of_lt (small1000 (by omega))
theorem ok_Finished : FnOk PP w K mg base CX0 1 T.f_Finished_init T.d_Finished_init ["self", "stamp"] (spEn T.c_Finished "stamp") := by
  refine ok_sup (N := ["self", "stamp", "__class__"]) T.S_Finished_init sc_Finished_init rfl (show (defScope s_Finished_init).names.lookup ("super" : Str) = some .globalImplicit by decide +kernel) rfl rfl (fun vs H Q E h => ?_) (fun A outer s H vs Q E hr h => ?_)
  · obtain ⟨a, n, rfl, _⟩ := h
    rfl
  · obtain ⟨a, n, rfl, ha, hn, k⟩ := h
    have nl := num_len hn
    refine ⟨a, _, _, _, pa_cons (pe_joined (.cons pe_str (.cons (pe_fmt (pv 1)) (.cons pe_str .nil)))) pa_nil, pss_one (ps_ost (pv 0) (pv 1)), rfl, fun M B u Q' E' s' z => PySem.Calls.evalArgs_plain z, rfl, rfl, rfl, ha, ?_⟩
    have e1 : (Str.empty ++ Str.ofString "transaction ").length = 12 := by decide +kernel
    have e2 : (Str.ofString " is not open").length = 12 := by decide +kernel
    refine ⟨_, rfl, lit_len e1 (by decide), _, rfl, .inr ⟨n, rfl, hn, _, rfl, ?_, _, rfl, ?_, by show 1 ≤ 1000; decide, ha, ?_⟩⟩
    · show (Str.empty ++ Str.ofString "transaction " ++ Str.ofString (toString n)).length ≤ sizeLine
      rw [str_len_app, e1]
      rw [sizeLine_eq]; omega
    · show (Str.empty ++ Str.ofString "transaction " ++ Str.ofString (toString n) ++ Str.ofString " is not open").length ≤ sizeLine
      rw [str_len_app, str_len_app, e1, e2]
      rw [sizeLine_eq]; omega
    · exact ⟨_, rfl, _, rfl, _, _, rfl, T.oex_Finished, T.na_Finished_stamp, .inl ⟨ha, fun dx m ne => k dx m ne⟩⟩
theorem ok_BrokenOff : FnOk PP w K mg base CX0 1 T.f_BrokenOff_init T.d_BrokenOff_init ["self", "stamp"] (spEn T.c_BrokenOff "stamp") := by
  refine ok_sup (N := ["self", "stamp", "__class__"]) T.S_BrokenOff_init sc_BrokenOff_init rfl (show (defScope s_BrokenOff_init).names.lookup ("super" : Str) = some .globalImplicit by decide +kernel) rfl rfl (fun vs H Q E h => ?_) (fun A outer s H vs Q E hr h => ?_)
  · obtain ⟨a, n, rfl, _⟩ := h
    rfl
  · obtain ⟨a, n, rfl, ha, hn, k⟩ := h
    have nl := num_len hn
    refine ⟨a, _, _, _, pa_cons (pe_joined (.cons pe_str (.cons (pe_fmt (pv 1)) (.cons pe_str .nil)))) pa_nil, pss_one (ps_ost (pv 0) (pv 1)), rfl, fun M B u Q' E' s' z => PySem.Calls.evalArgs_plain z, rfl, rfl, rfl, ha, ?_⟩
    have e1 : (Str.empty ++ Str.ofString "transaction ").length = 12 := by decide +kernel
    have e2 : (Str.ofString " was aborted by its request").length = 27 := by decide +kernel
    refine ⟨_, rfl, lit_len e1 (by decide), _, rfl, .inr ⟨n, rfl, hn, _, rfl, ?_, _, rfl, ?_, by show 1 ≤ 1000; decide, ha, ?_⟩⟩
    · show (Str.empty ++ Str.ofString "transaction " ++ Str.ofString (toString n)).length ≤ sizeLine
      rw [str_len_app, e1]
      rw [sizeLine_eq]; omega
    · show (Str.empty ++ Str.ofString "transaction " ++ Str.ofString (toString n) ++ Str.ofString " was aborted by its request").length ≤ sizeLine
      rw [str_len_app, str_len_app, e1, e2]
      rw [sizeLine_eq]; omega
    · exact ⟨_, rfl, _, rfl, _, _, rfl, T.oex_BrokenOff, T.na_BrokenOff_stamp, .inl ⟨ha, fun dx m ne => k dx m ne⟩⟩
/-- an error about an entry -/
def spEs (C : Addr) (f : Str) : Sp := fun vs H Q _ => ∃ (a : Addr) (x : Str), vs = [.ref a, .str x] ∧ H a = some (exo a C none) ∧ x.length ≤ 900 ∧ ∀ dx, H dx = none → dx ≠ a → Q .non (upd (upd H dx (exd dx [(f, .str x)])) a (exo a C (some dx)))
theorem rzs {C : Addr} {H : Hp} {x : Str} {f : Str} {E : XK} (hx : x.length ≤ 900) (kF : ∀ d, H d = none → E (.ref C) (some d) (upd H d (.xd [(f, .str x)]))) :
    (1 : Nat) ≤ 1000 ∧ ∀ a, H a = none → spEs C f ([V.ref a, .str x] ++ []) (upd H a (exo a C none)) (fun x H1 => x = .non ∧ ∃ d fs, H1 a = some (exo a C (some d)) ∧ H1 d = some (exd d fs) ∧ H d = none ∧ E (.ref C) (some d) (upd (del H1 a) d (.xd fs))) E0 := by
  refine ⟨by decide, fun a ha => ⟨a, x, rfl, upd_same, hx, fun d hd hne => ⟨rfl, d, [(f, .str x)], upd_same, ?_, ?_, ?_⟩⟩⟩
  · rw [upd_ne hne, upd_same]
  · rw [upd_ne hne] at hd
    exact hd
  · rw [upd_ne hne] at hd
    have z := kF d hd
    rw [raise_heap ha]
    exact z
theorem ok_TooLate : FnOk PP w K mg base CX0 1 T.f_TooLate_init T.d_TooLate_init ["self", "entry"] (spEs T.c_TooLate "entry") := by
  refine ok_sup (N := ["self", "entry", "__class__"]) T.S_TooLate_init sc_TooLate_init rfl (show (defScope s_TooLate_init).names.lookup ("super" : Str) = some .globalImplicit by decide +kernel) rfl rfl (fun vs H Q E h => ?_) (fun A outer s H vs Q E hr h => ?_)
  · obtain ⟨a, x, rfl, _⟩ := h
    rfl
  · obtain ⟨a, x, rfl, ha, hx, k⟩ := h
    refine ⟨a, _, _, _, pa_cons (pe_joined (.cons pe_str (.cons (pe_fmt (pv 1)) .nil))) pa_nil, pss_one (ps_ost (pv 0) (pv 1)), rfl, fun M B u Q' E' s' z => PySem.Calls.evalArgs_plain z, rfl, rfl, rfl, ha, ?_⟩
    have e1 : (Str.empty ++ Str.ofString "too late at ").length = 12 := by decide +kernel
    refine ⟨_, rfl, lit_len e1 (by decide), _, rfl, .inl ⟨x, rfl, Nat.le_of_lt (small1000 (by omega)), _, rfl, ?_, by show 1 ≤ 1000; decide, ha, ?_⟩⟩
    · show (Str.empty ++ Str.ofString "too late at " ++ x).length ≤ sizeLine
      rw [str_len_app, e1]
      rw [sizeLine_eq]; omega
    · exact ⟨_, rfl, _, rfl, _, _, rfl, T.oex_TooLate, T.na_TooLate_entry, .inl ⟨ha, fun dx m ne => k dx m ne⟩⟩
/-- an error about a stamp and what it waits for -/
def spEw (C : Addr) (f g : Str) : Sp := fun vs H Q _ => ∃ (a : Addr) (n : Int) (v : V), vs = [.ref a, .int n, v] ∧ H a = some (exo a C none) ∧ NumOk n ∧ ∀ dx, H dx = none → dx ≠ a → Q .non (upd (upd H dx (exd dx [(g, v), (f, .int n)])) a (exo a C (some dx)))
theorem rzw {C : Addr} {H : Hp} {n : Int} {v : V} {f g : Str} {E : XK} (hn : NumOk n) (kF : ∀ d, H d = none → E (.ref C) (some d) (upd H d (.xd [(g, v), (f, .int n)]))) :
    (2 : Nat) ≤ 1000 ∧ ∀ a, H a = none → spEw C f g ([V.ref a, .int n, v] ++ []) (upd H a (exo a C none)) (fun x H1 => x = .non ∧ ∃ d fs, H1 a = some (exo a C (some d)) ∧ H1 d = some (exd d fs) ∧ H d = none ∧ E (.ref C) (some d) (upd (del H1 a) d (.xd fs))) E0 := by
  refine ⟨by decide, fun a ha => ⟨a, n, v, rfl, upd_same, hn, fun d hd hne => ⟨rfl, d, [(g, v), (f, .int n)], upd_same, ?_, ?_, ?_⟩⟩⟩
  · rw [upd_ne hne, upd_same]
  · rw [upd_ne hne] at hd
    exact hd
  · rw [upd_ne hne] at hd
    have z := kF d hd
    rw [raise_heap ha]
    exact z
theorem ok_MustWait : FnOk PP w K mg base CX0 1 T.f_MustWait_init T.d_MustWait_init ["self", "stamp", "holders"] (spEw T.c_MustWait "stamp" "holders") := by
  refine ok_sup (N := ["self", "stamp", "holders", "__class__"]) T.S_MustWait_init sc_MustWait_init rfl (show (defScope s_MustWait_init).names.lookup ("super" : Str) = some .globalImplicit by decide +kernel) rfl rfl (fun vs H Q E h => ?_) (fun A outer s H vs Q E hr h => ?_)
  · obtain ⟨a, n, v, rfl, _⟩ := h
    rfl
  · obtain ⟨a, n, v, rfl, ha, hn, k⟩ := h
    have nl := num_len hn
    refine ⟨a, _, _, _, pa_cons (pe_joined (.cons pe_str (.cons (pe_fmt (pv 1)) (.cons pe_str .nil)))) pa_nil, pss_cons (ps_ost (pv 0) (pv 1)) (pss_one (ps_ost (pv 0) (pv 2))), rfl, fun M B u Q' E' s' z => PySem.Calls.evalArgs_plain z, rfl, rfl, rfl, ha, ?_⟩
    have e1 : (Str.empty ++ Str.ofString "transaction ").length = 12 := by decide +kernel
    have e2 : (Str.ofString " must wait").length = 10 := by decide +kernel
    refine ⟨_, rfl, lit_len e1 (by decide), _, rfl, .inr ⟨n, rfl, hn, _, rfl, ?_, _, rfl, ?_, by show 1 ≤ 1000; decide, ha, ?_⟩⟩
    · show (Str.empty ++ Str.ofString "transaction " ++ Str.ofString (toString n)).length ≤ sizeLine
      rw [str_len_app, e1]
      rw [sizeLine_eq]; omega
    · show (Str.empty ++ Str.ofString "transaction " ++ Str.ofString (toString n) ++ Str.ofString " must wait").length ≤ sizeLine
      rw [str_len_app, str_len_app, e1, e2]
      rw [sizeLine_eq]; omega
    · refine ⟨_, rfl, _, rfl, _, _, rfl, T.oex_MustWait, T.na_MustWait_stamp, .inl ⟨ha, fun dx m ne => ?_⟩⟩
      refine ⟨_, rfl, _, rfl, _, _, rfl, T.oex_MustWait, T.na_MustWait_holders, .inr ⟨dx, _, upd_same, by rw [upd_ne ne, upd_same], Nat.le_of_ble_eq_true rfl, ?_⟩⟩
      have z := k dx m ne
      rw [← upd_swap (o1 := exd dx [("stamp", .int n)]) ne] at z
      exact z
end
end K16

namespace K16
open PySem L2 SI CM BK OWN MIR StX TX TL
section
variable {w : World} {K : PySem.W.Frag} {mg : Str → Option Value} {base : Heap} (T : Txt w K mg)
def nmOf : Stp → Str
  | .req _ _ n => n
  | _ => ""
abbrev usOf (xs : List Stp) : List Int := xs.map Stp.who
abbrev nsOf (xs : List Stp) : List Str := xs.map nmOf
def KdOk : Stp → Prop
  | .req k _ _ => k ∈ KINDS
  | _ => True
noncomputable def stN (B : Bkm) (xs : List Stp) : Nat → MIR.S
  | 0 => s0
  | i + 1 => match xs[i]? with
    | some x => (takeM B (stN B xs i) x (1 + (i : Nat))).1
    | none => stN B xs i
noncomputable def outN (B : Bkm) (xs : List Stp) (i : Nat) : Out := match xs[i]? with
  | some x => (takeM B (stN B xs i) x (1 + (i : Nat))).2
  | none => ⟨"", [], .non, []⟩
theorem stN_at {B : Bkm} {xs : List Stp} {i : Nat} {x : Stp} (h : xs[i]? = some x) : stN B xs (i + 1) = (takeM B (stN B xs i) x (1 + (i : Nat))).1 := by
  show (match xs[i]? with | some x => (takeM B (stN B xs i) x (1 + (i : Nat))).1 | none => stN B xs i) = _
  rw [h]
theorem outN_at {B : Bkm} {xs : List Stp} {i : Nat} {x : Stp} (h : xs[i]? = some x) : outN B xs i = (takeM B (stN B xs i) x (1 + (i : Nat))).2 := by
  unfold outN
  rw [h]
def RunAt (H : Hp) : List V → List Stp → Prop := F2 fun v x => ∃ q, v = .ref q ∧ StpAt H q x
theorem RunAt.same {H H' : Hp} (s : Same H H') {vs : List V} {xs : List Stp} (h : RunAt H vs xs) : RunAt H' vs xs := F2.mono (fun a b ⟨q, e, z⟩ => ⟨q, e, z.same s⟩) h
theorem PartsAt.same {H H' : Hp} (s : Same H H') {vs : List V} {bs : List Bool} (h : PartsAt H vs bs) : PartsAt H' vs bs := F2.mono (fun a b z => z.same s) h
/-- (state, outcome, state) of turn i -/
def TrAt (CS CI : Addr) (B : Bkm) (xs : List Stp) (H : Hp) (p : Addr) (i : Nat) : Prop := ∃ a b c, H p = some (.tup [.ref a, .ref b, .ref c]) ∧ StAt CS CI (usOf xs) (nsOf xs) H a (stN B xs i) ∧ OutAt H b (outN B xs i) ∧ StAt CS CI (usOf xs) (nsOf xs) H c (stN B xs (i + 1)) ∧ Srt (usOf xs) (outN B xs i)
theorem TrAt.same {CS CI : Addr} {B : Bkm} {xs : List Stp} {H H' : Hp} {p : Addr} {i : Nat} (h : TrAt CS CI B xs H p i) (s : Same H H') : TrAt CS CI B xs H' p i := by
  obtain ⟨a, b, c, h1, h2, h3, h4, h5⟩ := h
  exact ⟨a, b, c, s _ _ h1, h2.same s, h3.same s, h4.same s, h5⟩
/-- all that is no list stays -/
def SameK (H H' : Hp) : Prop := ∀ b o, (∀ xs, o ≠ .lst xs) → H b = some o → H' b = some o
theorem SameK.t {H H' : Hp} (s : SameK H H') : SameT H H' := fun b o st h => s b o (by rintro xs rfl; cases st) h
theorem SameK.chg {H : Hp} {p : Addr} {xs : List V} {o : HO} (h : H p = some (.lst xs)) : SameK H (upd H p o) := fun b x n z => by
  rw [upd_ne (fun q => by rw [q, h] at z; exact n xs (Option.some.inj z).symm)]
  exact z
theorem SameK.of {H H' : Hp} (s : Same H H') : SameK H H' := fun b o _ h => s b o h
theorem SameK.trans {H H' H'' : Hp} (s : SameK H H') (t : SameK H' H'') : SameK H H'' := fun b o n h => t b o n (s b o n h)
theorem StAt_K {CS CI : Addr} {U : List Int} {N : List Str} {H H' : Hp} {p : Addr} {σ : MIR.S} (h : StAt CS CI U N H p σ) (s : SameK H H') : StAt CS CI U N H' p σ := by
  obtain ⟨dx, ds, dv, db, h1, n1, n2, n3, D1, D2, D3⟩ := h.ex
  obtain ⟨sv, a1, a2, a3⟩ := D1.ex
  obtain ⟨ov, b1, b2, b3⟩ := D2.ex
  obtain ⟨bv, c1, c2, c3⟩ := D3.ex
  have ki : ∀ {b o}, (∀ xs, o ≠ .lst xs) → H b = some o → H' b = some o := fun {b o} n z => s b o n z
  refine ⟨dx, ds, dv, db, ki (by intro xs q; cases q) h1, n1, n2, n3, ⟨sv, ki (by intro xs q; cases q) a1, a2, store_congr a3 s.t fun _ => rfl⟩, ⟨ov, ki (by intro xs q; cases q) b1, b2, b3⟩, ⟨bv, ki (by intro xs q; cases q) c1, c2, fun k => ?_⟩⟩
  have z := c3 k
  cases k with
  | inr n => exact z
  | inl x =>
    cases e2 : valV bv (Sum.inl x) with
    | none => rw [e2] at z; exact z
    | some v =>
      rw [e2] at z
      obtain ⟨q, h3, h4, h5, h6, h7⟩ := z
      exact ⟨q, h3, h4, ki (by intro xs q; cases q) h5, h6, h7⟩
theorem TrAt_K {CS CI : Addr} {B : Bkm} {xs : List Stp} {H H' : Hp} {p : Addr} {i : Nat} (h : TrAt CS CI B xs H p i) (s : SameK H H') : TrAt CS CI B xs H' p i := by
  obtain ⟨a, b, c, h1, h2, h3, h4, h5⟩ := h
  exact ⟨a, b, c, s _ _ (by intro xs q; cases q) h1, StAt_K h2 s, h3.sameT s.t, StAt_K h4 s, h5⟩
def TracAt (CS CI : Addr) (B : Bkm) (xs : List Stp) (H : Hp) (p : Addr) (n : Nat) : Prop := ∃ ts : List Addr, H p = some (.lst (ts.map V.ref)) ∧ F2 (TrAt CS CI B xs H) ts (List.range n)
/-- a run is asked: its parts, and its steps where all are good -/
structure RunQ (K : PySem.W.Frag) (H : Hp) (a : Addr) (vs : List V) (bs : List Bool) (xs : List Stp) : Prop where
  seq : SqL K H a vs
  prt : PartsAt H vs bs
  le : vs.length ≤ 300
  run : (∀ b ∈ bs, b = true) → RunAt H vs xs ∧ ∀ x ∈ xs, KdOk x
theorem RunQ.same {K : PySem.W.Frag} {H H' : Hp} {a : Addr} {vs : List V} {bs : List Bool} {xs : List Stp} (h : RunQ K H a vs bs xs) (s : Same H H') : RunQ K H' a vs bs xs := ⟨s.seq h.seq, h.prt.same s, h.le, fun z => ⟨(h.run z).1.same s, (h.run z).2⟩⟩
def BadRun (C : Addr) (bs : List Bool) (H : Hp) (E : XK) : Prop := ∀ i, bs[i]? = some false → (∀ j, j < i → bs[j]? = some true) → ∀ H' x, Same H H' → H x = none → H' x = some (.xd [(("index" : Str), .int (i : Nat))]) → E (.ref C) (some x) H'
def spTraced (K : PySem.W.Frag) (CB CS CI CE : Addr) : Sp := fun vs H Q E => ∃ (b dxb d : Addr) (f : Str → Str) (e : Str) (k : Nat) (a : Addr) (ws : List V) (bs : List Bool) (xs : List Stp), vs = [.ref b, .ref a] ∧
  Bk CB H b dxb d f e (k : Int) ∧ (∀ x ∈ ENT, f x ∈ chs x) ∧ 1 ≤ k ∧ k ≤ 20 ∧ RunQ K H a ws bs xs ∧
  ((∀ b ∈ bs, b = true) → ∀ (H' : Hp) (p : Addr), Same H H' → H p = none → TracAt CS CI ⟨f, e, k⟩ xs H' p xs.length → Q (.ref p) H') ∧ BadRun CE bs H E
theorem ok_traced : FnOk PP w K mg base (L2.CX PP w) 11 T.f_traced T.d_traced ["book", "run"] (spTraced K T.c_Book T.c_State T.c_Item T.c_BadStep) := by
  refine T.F_traced.okX sc_traced (fun vs H Q E h => ?_) (fun cdv A outer s H vs Q E hr h => ?_)
  · obtain ⟨b, dxb, d, f, e, k, a, ws, bs, xs, rfl, _⟩ := h
    rfl
  · obtain ⟨b, dxb, d, f, e, k, a, ws, bs, xs, rfl, B, hf, k1, k20, R, kT, kF⟩ := h
    refine ⟨_, pss_cons (ps_expr (pe_call (ok_check_run T) (hr.mono (by decide)) (by rfl) T.g_check_run T.F_check_run.kp (b_check_run T) .nil (passes_call (takes_of rfl rfl rfl rfl) fun _ _ _ _ h => h) (pa_cons (pv 1) pa_nil)))
 (pss_cons (ps_set (i := 2) sc_traced.nd rfl (.inl rfl) (pe_call0 (ok_first T) (hr.mono (by decide)) (by rfl) T.g_first_state T.F_first_state.kp (b_first_state T) .nil pass0))
 (pss_cons (ps_set (i := 3) sc_traced.nd rfl (.inl rfl) (pe_lst pa_nil))
 (pss_cons (ps_for (passes_of rfl) rfl (EN.pi_enumK (by rfl) T.n_enumerate (pa_cons (pv 1) pa_nil) (pk_cons pe_int pk_nil)) (pg_tup rfl (pgs_cons (pg_name (i := 4) sc_traced.nd rfl (.inl rfl)) (pgs_cons (pg_name (i := 5) sc_traced.nd rfl (.inl rfl)) pgs_nil)))
 (pss_cons (ps_asg (pe_call (ok_taken T) (hr.mono (by decide)) (by rfl) T.g_taken T.F_taken.kp (b_taken T) .nil pass0 (pa_cons (pv 0) (pa_cons (pv 2) (pa_cons (pv 5) (pa_cons (pv 4) pa_nil))))) (pg_tup rfl (pgs_cons (pg_name (i := 6) sc_traced.nd rfl (.inl rfl)) (pgs_cons (pg_name (i := 7) sc_traced.nd rfl (.inl rfl)) pgs_nil))))
 (pss_cons (ps_expr (pe_bm PySem.F.plainAttrs_list PySem.F.slot_list_append PySem.F.type_list_append mt_append (pv 3) (pa_cons (pe_tup (pa_cons (pv 2) (pa_cons (pv 7) (pa_cons (pv 6) pa_nil)))) pa_nil)))
 (pss_one (ps_set (i := 2) sc_traced.nd rfl (.inl rfl) (pv 6))))))
 (pss_one (ps_ret (pv 3)))))), ?_⟩
    have three : 3 ≤ sizeLine := by decide
    refine ⟨_, rfl, a, ws, bs, rfl, R.seq, R.prt, by have := R.le; omega, fun hall H1 s1 => ?_, fun i e1 e2 H' x sm nx hx => kF i e1 e2 H' x sm nx hx⟩
    obtain ⟨hrun, hkd⟩ := R.run hall
    have hlen := hrun.len
    refine ⟨rfl, fun H2 p0 s2 np0 hst0 => ?_⟩
    refine ⟨Nat.zero_le _, fun D nD => ?_⟩
    have s02 := s1.trans s2
    have s03 := same_new (o := .lst []) s02 nD
    have hD0 : (upd H2 D (.lst [])) D = some (.lst []) := upd_same
    have hst1 : StAt T.c_State T.c_Item (usOf xs) (nsOf xs) (upd H2 D (.lst [])) p0 (stN ⟨f, e, k⟩ xs 0) := (hst0 _ _).same (same_new (Same.refl H2) nD)
    have fD : H D = none := s02.free nD
    generalize upd H2 D (.lst []) = H3 at s03 hD0 hst1
    refine ⟨_, rfl, a, ws, 1, rfl, rfl, by decide, by decide, s03.seq R.seq, for_it (EN.walk_enumC (xs := ws)) (fun i τ H' => ∃ (p : Addr) (v4 v5 v6 v7 : Option V) (ts : List Addr), τ = [some (.ref b), some (.ref a), some (.ref p), some (.ref D), v4, v5, v6, v7] ∧ Same H H' ∧ H' D = some (.lst (ts.map V.ref)) ∧ F2 (TrAt T.c_State T.c_Item ⟨f, e, k⟩ xs H') ts (List.range i) ∧ StAt T.c_State T.c_Item (usOf xs) (nsOf xs) H' p (stN ⟨f, e, k⟩ xs i))
      ⟨p0, none, none, none, none, [], rfl, s03, hD0, .nil, hst1⟩ (fun i τ H' _ ⟨_, _, _, _, _, _, _, sm, _⟩ => sm.seq R.seq) ?_ ?_⟩
    · rintro i x τ H4 H5 hi ⟨p, v4, v5, v6, v7, ts, rfl, sm, hD, hts, hst⟩ ⟨T', x1, x2, rfl, nT, rfl, e1, e2⟩
      cases e1
      obtain ⟨y, ey, q, rfl, hq⟩ := hrun.at e2
      have ym : y ∈ xs := List.mem_of_getElem? ey
      have s5 := same_new (o := .tup [.int (1 + ((i : Nat) : Int)), .ref q]) (Same.refl H4) nT
      have hT5 : (upd H4 T' (.tup [.int (1 + ((i : Nat) : Int)), .ref q])) T' = some (.tup [.int (1 + ((i : Nat) : Int)), .ref q]) := upd_same
      generalize upd H4 T' (.tup [.int (1 + ((i : Nat) : Int)), .ref q]) = H5 at s5 hT5
      have sm5 := sm.trans s5
      have hok : StpOk (usOf xs) (nsOf xs) (.int (1 + ((i : Nat) : Int))) (1 + ((i : Nat) : Int)) y := by
        have h1 : y.who ∈ usOf xs := List.mem_map.mpr ⟨y, ym, rfl⟩
        have h2 : nmOf y ∈ nsOf xs := List.mem_map.mpr ⟨y, ym, rfl⟩
        have h3 := hkd y ym
        cases y with
        | req kd s n => exact ⟨h1, h2, h3, fun _ => rfl⟩
        | com s => exact h1
        | abo s => exact h1
      have l1 : (usOf xs).length ≤ 400 := by rw [List.length_map, ← hlen]; have := R.le; omega
      have l2 : (nsOf xs).length ≤ 400 := by rw [List.length_map, ← hlen]; have := R.le; omega
      refine ⟨T', _, rfl, SqT.of hT5, rfl, _, _, rfl, _, _, rfl, rfl, ?_⟩
      refine ⟨_, rfl, _, rfl, _, rfl, _, rfl, b, dxb, d, f, e, k, p, q, _, 1 + ((i : Nat) : Int), y, usOf xs, nsOf xs, stN ⟨f, e, k⟩ xs i, rfl, B.same sm5, hf, k1, k20, hq.same sm5, hok, hst.same s5, l1, l2, fun H6 r s6 ⟨a2, b2, hr2, hst2, hout⟩ hsrt => ?_⟩
      refine ⟨r, _, rfl, SqT.of hr2, rfl, _, _, rfl, _, _, rfl, rfl, ?_⟩
      have s56 := s5.trans s6
      refine ⟨_, rfl, .inl ⟨rfl, _, SqL.of (s56 _ _ hD)⟩, _, rfl, _, rfl, _, rfl, three, fun u nu => ?_⟩
      have s7 := same_new (o := .tup [.ref p, .ref b2, .ref a2]) (Same.refl H6) nu
      have hu : (upd H6 u (.tup [.ref p, .ref b2, .ref a2])) u = some (.tup [.ref p, .ref b2, .ref a2]) := upd_same
      generalize upd H6 u (.tup [.ref p, .ref b2, .ref a2]) = H7 at s7 hu
      have s47 := s56.trans s7
      have hD7 := s47 _ _ hD
      have len_ts : ts.length = i := by rw [hts.len, List.length_range]
      refine ⟨_, _, _, rfl, rfl, hD7, small1000 (by rw [List.length_map, len_ts]; have := R.le; omega), _, rfl, ?_⟩
      have t8 : SameK H7 (upd H7 D (.lst (ts.map V.ref ++ [V.ref u]))) := SameK.chg hD7
      have s8 : Same H (upd H7 D (.lst (ts.map V.ref ++ [V.ref u]))) := fun x o z => by rw [upd_ne (ne_of_none z fD)]; exact (sm.trans s47) x o z
      have est := stN_at (B := ⟨f, e, k⟩) ey
      have eou := outN_at (B := ⟨f, e, k⟩) ey
      rw [← est] at hst2
      rw [← eou] at hout hsrt
      refine ⟨a2, _, _, _, _, ts ++ [u], rfl, s8, by rw [upd_same, List.map_append]; rfl, ?_, StAt_K (hst2.same s7) t8⟩
      rw [List.range_succ]
      refine (hts.mono fun x j hx => TrAt_K (hx.same s47) t8).snoc (TrAt_K ⟨p, b2, a2, hu, hst.same s47, hout.same s7, hst2.same s7, hsrt⟩ t8)
    · rintro τ H4 ⟨p, v4, v5, v6, v7, ts, rfl, sm, hD, hts, hst⟩
      rw [hlen] at hts
      exact ⟨_, rfl, kT hall H4 D sm fD ⟨ts, hD, hts⟩⟩
end
end K16

namespace K16
open PySem L2 SI CM BK OWN MIR StX TX TL
section
variable {w : World} {K : PySem.W.Frag} {mg : Str → Option Value} {base : Heap} (T : Txt w K mg)
def OutsAt (B : Bkm) (xs : List Stp) (H : Hp) (p : Addr) (n : Nat) : Prop := ∃ ts : List Addr, H p = some (.lst (ts.map V.ref)) ∧ F2 (fun q i => OutAt H q (outN B xs i) ∧ Srt (usOf xs) (outN B xs i)) ts (List.range n)
theorem OutsAt.same {B : Bkm} {xs : List Stp} {H H' : Hp} {p : Addr} {n : Nat} (h : OutsAt B xs H p n) (s : Same H H') : OutsAt B xs H' p n := by
  obtain ⟨ts, h1, h2⟩ := h
  exact ⟨ts, s _ _ h1, h2.mono fun a b z => ⟨z.1.same s, z.2⟩⟩
def spPlay (K : PySem.W.Frag) (CB CE : Addr) : Sp := fun vs H Q E => ∃ (b dxb d : Addr) (f : Str → Str) (e : Str) (k : Nat) (a : Addr) (ws : List V) (bs : List Bool) (xs : List Stp), vs = [.ref b, .ref a] ∧
  Bk CB H b dxb d f e (k : Int) ∧ (∀ x ∈ ENT, f x ∈ chs x) ∧ 1 ≤ k ∧ k ≤ 20 ∧ RunQ K H a ws bs xs ∧
  ((∀ b ∈ bs, b = true) → ∀ (H' : Hp) (p : Addr), Same H H' → H p = none → OutsAt ⟨f, e, k⟩ xs H' p xs.length → Q (.ref p) H') ∧ BadRun CE bs H E
theorem ok_play : FnOk PP w K mg base (L2.CX PP w) 12 T.f_play T.d_play ["book", "run"] (spPlay K T.c_Book T.c_BadStep) := by
  refine T.F_play.okX sc_play (fun vs H Q E h => ?_) (fun cdv A outer s H vs Q E hr h => ?_)
  · obtain ⟨b, dxb, d, f, e, k, a, ws, bs, xs, rfl, _⟩ := h
    rfl
  · obtain ⟨b, dxb, d, f, e, k, a, ws, bs, xs, rfl, B, hf, k1, k20, R, kT, kF⟩ := h
    refine ⟨_, pss_one (ps_ret (pe_lc (own := [("_", 2), ("outcome", 3)]) (g := (gTup K 3 (gCons (gName 2) (gCons (gName 3) (gCons (gName 2) gNil))))) (tt := tYes) (by rfl) sc_play.nd (pi_list (pe_call (ok_traced T) (hr.mono (by decide)) (by rfl) T.g_traced T.F_traced.kp (b_traced T) .nil (passes_call (takes_of rfl rfl rfl rfl) fun _ _ _ _ h => h) (pa_cons (pv 0) (pa_cons (pv 1) pa_nil)))) (blkOk_by (N := ["book", "run", "_", "outcome"]) (sc := defScope s_play) (by decide +kernel)) (fun _ _ _ _ _ => pg_tup rfl (pgs_cons (pg_name (i := 2) sc_play.nd rfl (.inl rfl)) (pgs_cons (pg_name (i := 3) sc_play.nd rfl (.inl rfl)) (pgs_cons (pg_name (i := 2) sc_play.nd rfl (.inl rfl)) pgs_nil)))) (fun _ _ _ _ _ => pts_nil) (fun _ _ _ _ _ => (pv 3)))), ?_⟩
    refine ⟨_, rfl, _, rfl, b, dxb, d, f, e, k, a, ws, bs, xs, rfl, B, hf, k1, k20, R, fun hall H1 p s1 np ⟨ts, hp, hts⟩ => ?_, kF⟩
    have hl : xs.length ≤ 300 := by rw [← (R.run hall).1.len]; exact R.le
    have lt : ts.length = xs.length := by rw [hts.len, List.length_range]
    refine ⟨p, rfl, ⟨_, SqL.of hp⟩, fun D nD => lc_list (xs := ts.map V.ref) (fun i H' => ∃ us : List Addr, H' D = some (.lst (us.map V.ref)) ∧ Same H1 H' ∧ F2 (fun q i => OutAt H' q (outN ⟨f, e, k⟩ xs i) ∧ Srt (usOf xs) (outN ⟨f, e, k⟩ xs i)) us (List.range i))
      ⟨[], upd_same, same_new (Same.refl H1) nD, .nil⟩ (fun i H' _ ⟨_, _, s, _⟩ => SqL.of (s _ _ hp)) ?_ ?_⟩
    · rintro i x H2 hx ⟨us, hD, s2, hus⟩
      rw [List.getElem?_map] at hx
      cases hq : ts[i]? with
      | none => rw [hq] at hx; cases hx
      | some y =>
      rw [hq] at hx
      cases hx
      obtain ⟨j, ej, hy⟩ := hts.at hq
      obtain rfl : j = i := by
        have hi : i < (List.range xs.length).length := (List.getElem?_eq_some_iff.mp ej).1
        rw [List.getElem?_eq_getElem hi, List.getElem_range] at ej
        exact (Option.some.inj ej).symm
      obtain ⟨a1, b1, c1, hy, _, ho, _, hsr⟩ := hy
      have lu : us.length = j := by rw [hus.len, List.length_range]
      have hj : j < ts.length := (List.getElem?_eq_some_iff.mp hq).1
      refine ⟨y, _, rfl, SqT.of (s2 _ _ hy), rfl, _, _, rfl, _, _, rfl, _, _, rfl, rfl, rfl, _, rfl, ?_⟩
      have t8 : SameT H2 (upd H2 D (.lst (us.map V.ref ++ [V.ref b1]))) := SameT.chg hD (fun z => z)
      refine ⟨_, hD, small1000 (by rw [List.length_map, lu]; omega), us ++ [b1], by rw [upd_same, List.map_append]; rfl, fun x o z => by rw [upd_ne (ne_of_none z nD)]; exact s2 x o z, ?_⟩
      rw [List.range_succ]
      exact (hus.mono fun x i hx => ⟨hx.1.sameT t8, hx.2⟩).snoc ⟨(ho.same s2).sameT t8, hsr⟩
    · rintro H2 ⟨us, hD, s2, hus⟩
      rw [List.length_map, lt] at hus
      exact kT hall H2 D (s1.trans s2) (s1.free nD) ⟨us, hD, hus⟩
end
end K16

/-! o.f as one of several targets of an assignment. -/
namespace AT
open PySem PySem.Spec PyProof.Rows L2
section
variable {X : Cx}
def gFld (K : PySem.W.Frag) (ta : TE) (f : Str) : TG := fun v σ H Q => ta σ H fun x H2 => ∃ a C dx fs, x = .ref a ∧ H2 a = some (.ins C dx fs) ∧ Cls K C ∧ NoAttr K C f ∧ fs.length < 1000 ∧ Q σ (upd H2 a (.ins C dx (putF f v fs)))
theorem pg_fld {o : Expr} {f : Str} {pos : Pos} {ta : TE} (ho : PE X o ta) : PG X (.Attribute o f pos) (gFld X.K ta f) := by
  refine ⟨fun pins s σ H v u Q I r h => ?_⟩
  rw [PySem.assign_Attribute]
  refine wpAny_bind (wpAny_holding (thn (ho.run pins s σ H _ I h) fun ov s1 ⟨x, H1, I1, r1, a, C, dx, fs, ex, ea, c, n, l, q1⟩ => ?_))
  subst ex
  obtain rfl : ov = Value.ref a := r1
  refine wpAny_bind (wpAny_standAt (wpAny_bind (wpAny_holding (setattr_ok I1 ea c n l r fun s3 I3 => ?_))))
  exact wpAny_release ⟨σ, _, I3, q1⟩
end
end AT

/-! o.m(..) within a try, and o.m(k = v). -/
namespace MK
open PySem PySem.Spec PyProof.Rows L2 OWN
section
variable {X : Cx} {CX : CXT} {C f : Addr} {n k : Nat} {fd : FuncData} {ps ks : List Str} {sp : Sp} {ES : L2.St → XK} {o e : Expr} {es : List Expr} {kws : List Keyword} {m : Str} {pos apos : Pos} {ta : TE} {t tk : TA} {g : List Value → List Value → List Value} {gV : List V → List V → List V}
def tMethS (C : Addr) (m : Str) (sp : Sp) (ES : L2.St → XK) (ta : TE) (t : TA) : TE := fun σ H Q => ta σ H fun x H1 => ∃ a dx fs, x = .ref a ∧ H1 a = some (.ins C dx fs) ∧ fs.lookup m = none ∧ t σ H1 fun vs H2 => sp (x :: vs) H2 Q (ES σ)
theorem pe_methES {pl : Sem Bool} (he : PE X o ta) (c : Cls X.K C) (hm : Meth X.K C m f) (F : FnR X.prog X.w X.K X.mg X.base CX k f sp) (hr : Room k X.A) (hx : ∀ σ, PassesAt CX X σ (ES σ)) (ha : PA X (e :: es) t)
    (hst : starEach (e :: es) X.env = (false, eval e X.env) :: starEach es X.env := by rfl) (hpl : (backTo pos (starEach es X.env)).any (·.1) = false := by rfl)
    (ht : eval (.Call (.Attribute o m apos) (e :: es) [] pos) X.env = (do
      let ov ← eval o X.env
      standAt apos.atName
      let (f, first) ← holding [ov] (getMethod ov m pl)
      callWith pos f first (backTo pos (starEach (e :: es) X.env)) (backToKw pos (keywordEach [] X.env))) := by rfl) :
    PE X (.Call (.Attribute o m apos) (e :: es) [] pos) (tMethS C m sp ES ta t) := by
  refine ⟨fun pins s σ H Q I h => ?_⟩
  refine PySem.W.methodCall_KW (pl := pl) (thn (he.run pins s σ H _ I h) fun u s1 ⟨x, H1, I1, rx, a, dx, fs, ex, ea, l, q⟩ => ?_) ht
  subst ex
  obtain rfl : u = Value.ref a := rx
  refine getmeth_ok I1 ea c hm l ?_
  refine PySem.W.callWith_K (first := [.ref a]) (h₀ := X.base) I.ok.mod.kin hm.kp (thn (ha.run pos pins s1 σ H1 _ I1 q) fun us s2 ⟨vs, H2, I2, r, q2⟩ => ⟨I2.kIn, ?_⟩) hst hpl
  exact run_fnRS (us := .ref a :: us) (vs := .ref a :: vs) F hr (hx σ) I2 (.cons rfl r) q2
theorem run_fnNS {pins : List (Addr × Obj)} {σ : L2.St} {H : Hp} {s : Shared} {Q : VK} {us ws : List Value} {vs zs : List V} (F : FnOk X.prog X.w X.K X.mg X.base CX k f fd ps sp) (hr : Room k X.A) (hb : KBn X.K fd ps n ks g gV) (hx : PassesAt CX X σ (ES σ))
    (I : Inv X pins σ H s) (r : Vals vs us) (rz : Vals zs ws) (l1 : vs.length = n) (l2 : zs.length = ks.length) (h : sp (gV vs zs) H Q (ES σ)) : wpAny (model X.prog X.w) X.A (call (.ref f) us (ks.zip ws)) (EP X pins σ Q) X.xe s := by
  have r2 := hb.rel r rz
  refine wpAny_call (codeAny_mono (F.run X.A X.stack s H ⟨us, ks.zip ws⟩ (g us ws) (gV vs zs) Q (ES σ) hr I.env0 (hb.to s us ws I.kIn (r.length.symm.trans l1) (rz.length.symm.trans l2)) r2 h) fun r s' hq => ?_)
  cases r with
  | error e => exact hx pins H s e s' I hq
  | ok fl =>
    cases fl with
    | ret u => exact I.after hq
    | next => exact False.elim hq
    | brk => exact False.elim hq
    | cont => exact False.elim hq
def tMethK (C : Addr) (m : Str) (l : Nat) (sp : Sp) (gV : List V → List V → List V) (ES : L2.St → XK) (ta : TE) (tk : TA) : TE := fun σ H Q => ta σ H fun x H1 => ∃ a dx fs, x = .ref a ∧ H1 a = some (.ins C dx fs) ∧ fs.lookup m = none ∧ tk σ H1 fun zs H2 => zs.length = l ∧ sp (gV [x] zs) H2 Q (ES σ)
theorem pe_methK {pl : Sem Bool} (he : PE X o ta) (c : Cls X.K C) (hm : Meth X.K C m f) (F : FnOk X.prog X.w X.K X.mg X.base CX k f fd ps sp) (hr : Room k X.A) (hb : KBn X.K fd ps 1 ks g gV) (hx : ∀ σ, PassesAt CX X σ (ES σ)) (hkw : PK X kws tk)
    (hall : (backToKw pos (keywordEach kws X.env)).all (·.1.isSome) = true := by rfl) (hks : (backToKw pos (keywordEach kws X.env)).filterMap (·.1) = ks := by rfl)
    (hpl : ((backTo pos (starEach [] X.env)).any (·.1) || (backToKw pos (keywordEach kws X.env)).any (·.1.isNone)) = false := by rfl)
    (ht : eval (.Call (.Attribute o m apos) [] kws pos) X.env = (do
      let ov ← eval o X.env
      standAt apos.atName
      let (f, first) ← holding [ov] (getMethod ov m pl)
      callWith pos f first (backTo pos (starEach [] X.env)) (backToKw pos (keywordEach kws X.env))) := by rfl) :
    PE X (.Call (.Attribute o m apos) [] kws pos) (tMethK C m ks.length sp gV ES ta tk) := by
  refine ⟨fun pins s σ H Q I h => ?_⟩
  refine PySem.W.methodCall_KW (pl := pl) (thn (he.run pins s σ H _ I h) fun u s1 ⟨x, H1, I1, rx, a, dx, fs, ex, ea, l, q⟩ => ?_) ht
  subst ex
  obtain rfl : u = Value.ref a := rx
  refine getmeth_ok I1 ea c hm l ?_
  refine PySem.W.callWith_KW0 (first := [.ref a]) (h₀ := X.base) I.ok.mod.kin hm.kp hall ?_ hpl
  refine thn (hkw.run pos pins s1 σ H1 _ I1 q) fun ws s2 ⟨zs, H2, I2, rz, l1, q2⟩ => ⟨I2.kIn, ?_⟩
  rw [hks]
  exact run_fnNS (us := [.ref a]) (vs := [.ref a]) F hr hb (hx σ) I2 (.cons rfl .nil) rz rfl l1 q2
end
end MK

namespace K16
open PySem L2 SI CM BK OWN
section
variable {w : World} {K : PySem.W.Frag} {mg : Str → Option Value} {base : Heap} (T : Txt w K mg)
abbrev psB : List Str := ["self", "answers", "ends", "keep"]
/-- Book(x, ends=.., keep=..) -/
theorem kbEK : ∃ (g : List Value → List Value → List Value), KBn K T.d_Book_init psB 2 ["ends", "keep"] g (fun vs zs => vs ++ zs) := by
  obtain ⟨its, mv, h⟩ := T.F_Book_init.kbinds (ps := psB) 2 ["ends", "keep"] [] (fun us its mv ws => us ++ ws) (by simp) (by simp) (fun q h => by cases h) (fun r1 _ _ r4 => r1.append r4)
    fun T D doc pm an cdv ct us its mv ws l1 l2 l3 l4 => match us, its, mv, ws, l1, l2, l3, l4 with
      | [_, _], [_], [], [_, _], _, _, _, _ => ⟨_, rfl, rfl⟩
  exact ⟨_, h⟩
/-- Book(x, ends=..) -/
theorem kbE : ∃ (g : List Value → List Value → List Value), KBn K T.d_Book_init psB 2 ["ends"] g (fun vs zs => vs ++ (zs ++ [.int 1])) := by
  obtain ⟨its, mv, h⟩ := T.F_Book_init.kbinds (ps := psB) 2 ["ends"] [("keep", .int 1)] (fun us its mv ws => us ++ (ws ++ mv)) (by simp) (by simp) (fun q h => by rw [List.mem_singleton.mp h]; simp) (fun r1 _ r3 r4 => r1.append (r4.append r3))
    fun T D doc pm an cdv ct us its mv ws l1 l2 l3 l4 => match us, its, mv, ws, l1, l2, l3, l4 with
      | [_, _], [_], [_], [_], _, _, _, _ => ⟨_, rfl, _, _, _, _, _, _, rfl, rfl, rfl⟩
  exact ⟨_, h⟩
/-- Book(x, keep=..) -/
theorem kbK : ∃ (g : List Value → List Value → List Value), KBn K T.d_Book_init psB 2 ["keep"] g (fun vs zs => vs ++ ([.str "now"] ++ zs)) := by
  obtain ⟨its, mv, h⟩ := T.F_Book_init.kbinds (ps := psB) 2 ["keep"] [("ends", .str "now")] (fun us its mv ws => us ++ (mv ++ ws)) (by simp) (by simp) (fun q h => by rw [List.mem_singleton.mp h]; simp) (fun r1 _ r3 r4 => r1.append (r3.append r4))
    fun T D doc pm an cdv ct us its mv ws l1 l2 l3 l4 => match us, its, mv, ws, l1, l2, l3, l4 with
      | [_, _], [_], [_], [_], _, _, _, _ => ⟨_, rfl, _, _, _, _, _, _, rfl, rfl, rfl⟩
  exact ⟨_, h⟩
/-- Book() -/
theorem kb0 : ∃ ds, Vals [.non, .str "now", .int 1] ds ∧ Binds K T.d_Book_init psB ds :=
  T.F_Book_init.binds (ps := psB) 1 0 (by simp) rfl (fun T D doc pm an cdv ct us its ks l1 l2 l3 => match us, its, ks, l1, l2, l3 with
    | [_], [_], [_, _], _, _, _ => ⟨_, rfl, _, _, _, _, _, _, rfl, rfl, _, _, _, _, _, _, rfl, rfl, rfl⟩) (by simp)
/-- Book(x) -/
theorem kb1 : ∃ ds, Vals [.str "now", .int 1] ds ∧ Binds K T.d_Book_init psB ds :=
  T.F_Book_init.binds (ps := psB) 2 1 (by simp) rfl (fun T D doc pm an cdv ct us its ks l1 l2 l3 => match us, its, ks, l1, l2, l3 with
    | [_, _], [_], [_, _], _, _, _ => ⟨_, rfl, _, _, _, _, _, _, rfl, rfl, _, _, _, _, _, _, rfl, rfl, rfl⟩) (by simp)
/-- a book is made -/
theorem mk_book {C S B A : Addr} {H2 : Hp} {g : V} {gv : List (Str × V)} {e : Str} {k : Int} {R : VK} {E : XK} {x dx : Addr} (hg : Giv H2 g gv) (hI : isEnds (.str e)) (hk : keepV (.int k) = true) (hok : ∀ q ∈ gv, okPair q = true)
    (nx : H2 x = none) (ndx : H2 dx = none) (h : ∀ H' d, Same H2 H' → H2 d = none → Bk C H' x dx d (fill gv fun _ => "abort") e k → R .non H') :
    spInit C S B A [.ref x, g, .str e, .int k] (upd (upd H2 dx (.own x)) x (.ins C dx [])) R E := by
  have sm : Same H2 (upd (upd H2 dx (.own x)) x (.ins C dx [])) := fun b o z => by
    rw [upd_ne (ne_of_none z nx), upd_ne (ne_of_none z ndx)]
    exact z
  refine ⟨x, dx, g, gv, _, _, rfl, upd_same, rfl, rfl, ?_, fun q hq => ?_, ⟨fun e' k' he _ hk' _ _ H' d b nd Bb => ?_, fun z => absurd hI z, (fun _ z => by rw [hk] at z; cases z), fun _ _ pre q post eq _ hn => ?_, fun _ _ pre q post eq _ _ hb => ?_⟩⟩
  · rcases hg with ⟨h1, h2⟩ | ⟨a, h1, h2⟩
    · exact .inl ⟨h1, h2⟩
    · exact .inr ⟨a, h1, sm _ _ h2⟩
  · have z := hok q hq
    obtain ⟨qe, qv⟩ := q
    cases qv with
    | str a => rfl
    | _ => unfold okPair isAnsB at z; simp at z
  · cases he
    cases hk'
    refine h H' d (fun b' o z => b b' o (ne_of_none z nx) (sm b' o z)) ?_ Bb
    exact sm.free nd
  · have z := hok q (by rw [eq]; simp)
    unfold okPair at z
    rw [decide_eq_false hn] at z
    cases z
  · have z := hok q (by rw [eq]; simp)
    unfold okPair at z
    rw [hb, Bool.and_false] at z
    cases z
/-- a book as it may stand -/
structure Gd (f : Str → Str) (e : Str) (k : Int) : Prop where
  en : isEnds (.str e)
  kp : keepV (.int k) = true
  an : ∀ x ∈ ENT, f x ∈ chs x
theorem Bk.congr {C : Addr} {H : Hp} {b dx d : Addr} {f f' : Str → Str} {e : Str} {k : Int} (h : Bk C H b dx d f e k) (hf : ∀ x ∈ ENT, f x = f' x) : Bk C H b dx d f' e k := ⟨h.ins, by rw [h.tbl]; exact congrArg _ (congrArg _ (tab_congr hf))⟩
theorem ok_tab {f : Str → Str} (h : ∀ x ∈ ENT, f x ∈ chs x) : ∀ q ∈ ENT.map (fun e => (e, V.str (f e))), okPair q = true := by
  intro q hq
  obtain ⟨e, he, rfl⟩ := List.mem_map.mp hq
  show (decide (e ∈ ENT) && decide (f e ∈ chs e)) = true
  rw [decide_eq_true he, decide_eq_true (h e he)]
  rfl
end
end K16

namespace K16
open PySem L2 SI CM BK OWN
section
variable {w : World} {K : PySem.W.Frag} {mg : Str → Option Value} {base : Heap} (T : Txt w K mg)
def spCopy (C : Addr) : Sp := fun vs H Q _ => ∃ b dx d f e k, vs = [.ref b] ∧ Bk C H b dx d f e k ∧ Gd f e k ∧ ∀ H' b' dx' d', Same H H' → H b' = none → H d' = none → Bk C H' b' dx' d' f e k → Q (.ref b') H'
theorem ok_copy : FnOk PP w K mg base CX0 8 T.f_Book_copy T.d_Book_copy ["self"] (spCopy T.c_Book) := by
  refine T.F_Book_copy.ok sc_Book_copy (fun vs H Q E h => ?_) (fun cdv A outer s H vs Q E hr h => ?_)
  · obtain ⟨b, dx, d, f, e, k, rfl, _⟩ := h
    rfl
  · obtain ⟨b, dx, d, f, e, k, rfl, B, G, q⟩ := h
    obtain ⟨g, kb⟩ := kbEK T
    refine ⟨_, pss_one (ps_ret (pe_makeK (n := 1) T.mk_Book (ok_Book_init T) (hr.mono (by decide)) (by rfl) T.g_Book kb passL (pa_cons (pe_fld (pv 0) rfl) pa_nil) (pk_cons (pe_fld (pv 0) rfl) (pk_cons (pe_fld (pv 0) rfl) pk_nil)))), ?_⟩
    refine ⟨_, rfl, b, T.c_Book, dx, _, _, rfl, B.ins, T.cl_Book, T.na_Book__answers, rfl, _, rfl, b, T.c_Book, dx, _, _, rfl, B.ins, T.cl_Book, T.na_Book__ends, rfl, _, rfl, b, T.c_Book, dx, _, _, rfl, B.ins, T.cl_Book, T.na_Book__keep, rfl, rfl, rfl, ?_⟩
    refine fun b' dx' nb ndx ne => mk_book (gv := ENT.map fun e => (e, V.str (f e))) (.inr ⟨d, rfl, by rw [← tabS_prs]; exact B.tbl⟩) G.en G.kp (ok_tab G.an) nb ndx fun H' d' sm nd Bb => ⟨rfl, q H' b' dx' d' sm nb nd ?_⟩
    exact Bk.congr Bb fun x hx => by rw [fill_tab ent_nodup, if_pos hx]
end
end K16

namespace K16
open PySem L2 SI CM BK OWN MIR StX TX TL
section
variable {w : World} {K : PySem.W.Frag} {mg : Str → Option Value} {base : Heap} (T : Txt w K mg)
/-! the desk: what its objects are in the heap -/
def okX : HO → Prop
  | .lst _ => False
  | .frz _ _ => False
  | .ins _ _ ((f, _) :: _) => f ≠ "book" ∧ f ≠ "desk"
  | _ => True
/-- all stays but lists, what is locked, desks and their transactions -/
def SameX (H H' : Hp) : Prop := ∀ b o, okX o → H b = some o → H' b = some o
section
variable {H H' : Hp} {C CS CI p q k d : Addr} {i : MIR.It} {U : List Int} {N : List Str} {σ : MIR.S}
theorem KeptAt_X {vs : List (Int × Int)} (h : KeptAt H k vs) (s : SameX H H') : KeptAt H' k vs := by
  obtain ⟨ps, h1, h2⟩ := h
  exact ⟨ps, s _ _ trivial h1, h2.mono fun a b r => s a (.tup [.int b.1, .int b.2]) trivial r⟩
theorem ItAt_X (h : ItAt C H p i) (s : SameX H H') : ItAt C H' p i := by
  obtain ⟨dx, k, h1, h2⟩ := h
  exact ⟨dx, k, s _ _ ⟨by decide +kernel, by decide +kernel⟩ h1, KeptAt_X h2 s⟩
theorem StAt_X (h : StAt CS CI U N H p σ) (s : SameX H H') : StAt CS CI U N H' p σ := by
  obtain ⟨dx, ds, dv, db, h1, n1, n2, n3, D1, D2, D3⟩ := h.ex
  obtain ⟨sv, a1, a2, a3⟩ := D1.ex
  obtain ⟨ov, b1, b2, b3⟩ := D2.ex
  obtain ⟨bv, c1, c2, c3⟩ := D3.ex
  refine ⟨dx, ds, dv, db, s _ _ ⟨by decide +kernel, by decide +kernel⟩ h1, n1, n2, n3, ⟨sv, s _ _ trivial a1, a2, fun k => ?_⟩, ⟨ov, s _ _ trivial b1, b2, b3⟩, ⟨bv, s _ _ trivial c1, c2, fun k => ?_⟩⟩
  · have z := a3 k
    cases k with
    | inl n => exact z
    | inr x =>
      cases e2 : valV sv (Sum.inr x) with
      | none => rw [e2] at z; exact z
      | some v =>
        rw [e2] at z
        obtain ⟨q, h3, h4, h5, h6⟩ := z
        exact ⟨q, h3, h4, ItAt_X h5 s, h6⟩
  · have z := c3 k
    cases k with
    | inr n => exact z
    | inl x =>
      cases e2 : valV bv (Sum.inl x) with
      | none => rw [e2] at z; exact z
      | some v =>
        rw [e2] at z
        obtain ⟨q, h3, h4, h5, h6, h7⟩ := z
        exact ⟨q, h3, h4, s _ _ trivial h5, h6, h7⟩
theorem Bk_X {C : Addr} {b dx d : Addr} {f : Str → Str} {e : Str} {k : Int} (h : Bk C H b dx d f e k) (s : SameX H H') : Bk C H' b dx d f e k :=
  ⟨s _ _ ⟨by decide +kernel, by decide +kernel⟩ h.ins, s _ _ trivial h.tbl⟩
theorem OvAt_X {v : V} (s : SameX H H') : ∀ {o : OV}, OvAt H v o → OvAt H' v o
  | .non, h => h
  | .int _, h => h
  | .tup _, ⟨q, h1, h2⟩ => ⟨q, h1, s _ _ trivial h2⟩
theorem OutAt_X {o : Out} (h : OutAt H p o) (s : SameX H H') : OutAt H' p o := by
  obtain ⟨m, v, f, h1, h2, h3, h4⟩ := h
  exact ⟨m, v, f, s _ _ trivial h1, s _ _ trivial h2, OvAt_X s h3, s _ _ trivial h4⟩
end
/-- the heap without these -/
def dels (ex : List Addr) (H : Hp) : Hp := fun b => if b ∈ ex then none else H b
theorem dels_in {ex : List Addr} {H : Hp} {b : Addr} {o : HO} (h : dels ex H b = some o) : b ∉ ex ∧ H b = some o := by
  unfold dels at h
  split at h
  · cases h
  · rename_i c; exact ⟨c, h⟩
theorem dels_of {ex : List Addr} {H : Hp} {b : Addr} {o : HO} (n : b ∉ ex) (h : H b = some o) : dels ex H b = some o := by
  unfold dels
  rw [if_neg n]; exact h
theorem dels_sub {ex : List Addr} {H : Hp} : Same (dels ex H) H := fun b o h => (dels_in h).2
theorem dels_same {ex : List Addr} {H H' : Hp} (s : ∀ b o, b ∉ ex → H b = some o → H' b = some o) : Same (dels ex H) (dels ex H') := fun b o h => by
  obtain ⟨n, h⟩ := dels_in h
  exact dels_of n (s b o n h)
structure DkA where
  dx : Addr
  b : Addr
  dxb : Addr
  d : Addr
  bg : Addr
  lf : Addr
def PBg (G : List Int) : Key → Option V → Prop
  | .inl t, o => o = if t ∈ G then some (.bl true) else none
  | .inr _, o => o = none
def dkF (y : DkA) (st : Addr) (g : Int) : List (Str × V) := [("book", .ref y.b), ("state", .ref st), ("begun", .ref y.bg), ("greatest", .int g), ("left", .ref y.lf)]
structure DkAt (CD CB CS CI : Addr) (U : List Int) (N : List Str) (B : Bkm) (ex : List Addr) (H : Hp) (a : Addr) (y : DkA) (σ : MIR.S) (G : List Int) (g : Int) (L : List V) : Prop where
  st : ∃ st, H a = some (.ins CD y.dx (dkF y st g)) ∧ StAt CS CI U N (dels ex H) st σ
  bk : Bk CB (dels ex H) y.b y.dxb y.d B.f B.ends (B.keep : Int)
  bg : DR H y.bg (PBg G)
  lf : H y.lf = some (.lst L)
  inx : y.bg ∈ ex
section
variable {CD CB CS CI : Addr} {U : List Int} {N : List Str} {B : Bkm} {ex : List Addr} {H H' : Hp} {a : Addr} {y : DkA} {σ : MIR.S} {G : List Int} {g : Int} {L : List V}
theorem DkAt.same (h : DkAt CD CB CS CI U N B ex H a y σ G g L) (s : Same H H') : DkAt CD CB CS CI U N B ex H' a y σ G g L := by
  obtain ⟨st, h1, h2⟩ := h.st
  have s2 := dels_same (ex := ex) fun b o _ z => s b o z
  exact ⟨⟨st, s _ _ h1, h2.same s2⟩, h.bk.same s2, h.bg.mono s fun _ _ z => z, s _ _ h.lf, h.inx⟩
/-- other things have changed -/
theorem DkAt.frame {a2 b2 l2 : Addr} (h : DkAt CD CB CS CI U N B ex H a y σ G g L) (s : ∀ x o, x ≠ a2 → x ≠ b2 → x ≠ l2 → H x = some o → H' x = some o) (na : a ≠ a2) (nb : b2 ∈ ex) (nb2 : y.bg ≠ b2) (nl : y.lf ≠ l2) (ha : ∃ C dx v fs, H a2 = some (.ins C dx ((("book" : Str), v) :: fs))) (hl : ∃ L, H l2 = some (.lst L)) (hb : ∃ kv, H b2 = some (.dK kv)) :
    DkAt CD CB CS CI U N B ex H' a y σ G g L := by
  obtain ⟨st, h1, h2⟩ := h.st
  obtain ⟨C, dx, v, fs, ha⟩ := ha
  obtain ⟨L2, hl⟩ := hl
  obtain ⟨kv2, hb⟩ := hb
  have sx : SameX (dels ex H) (dels ex H') := fun b o ok z => by
    obtain ⟨n, z⟩ := dels_in z
    refine dels_of n (s b o (fun e => ?_) (fun e => n (by rw [e]; exact nb)) (fun e => ?_) z)
    · rw [e, ha] at z; cases z; exact ok.1 rfl
    · rw [e, hl] at z; cases z; exact ok
  have ka : ∀ {x o}, x ≠ a2 → x ≠ b2 → x ≠ l2 → H x = some o → H' x = some o := fun {x o} => s x o
  obtain ⟨kv, b1, b3, b4⟩ := h.bg.ex
  refine ⟨⟨st, ka na (fun e => ?_) (fun e => ?_) h1, StAt_X h2 sx⟩, Bk_X h.bk sx, ⟨kv, ka (fun e => ?_) nb2 (fun e => ?_) b1, b3, b4⟩, ka (fun e => ?_) (fun e => ?_) nl h.lf, h.inx⟩
  all_goals first
    | (rw [e, hl] at h1; cases h1)
    | (rw [e, hl] at b1; cases b1)
    | (rw [e, ha] at b1; cases b1)
    | (have q := h.lf; rw [e, ha] at q; cases q)
    | (rw [e, hb] at h1; cases h1)
    | (have q := h.lf; rw [e, hb] at q; cases q)
end
end
end K16

namespace K16
open PySem L2 SI CM BK OWN MIR StX TX TL
section
variable {w : World} {K : PySem.W.Frag} {mg : Str → Option Value} {base : Heap} (T : Txt w K mg)
/-- all of ex but the desk's own begun dict is locked -/
def Locked (H : Hp) (ex : List Addr) (bg : Addr) : Prop := ∀ b ∈ ex, b = bg ∨ ∃ od u, H b = some (.frz od u)
theorem stp_tup {H : Hp} {q : Addr} {x : Stp} (h : StpAt H q x) : ∃ l, H q = some (.tup l) := by
  cases x <;> exact ⟨_, h⟩
def spDTake (CD CB CS CI : Addr) : Sp := fun vs H Q _ => ∃ (U : List Int) (N : List Str) (B : Bkm) (ex : List Addr) (a : Addr) (y : DkA) (σ : MIR.S) (G : List Int) (g : Int) (L : List V) (st : Addr) (v : V) (z : Int) (x : Stp), vs = [.ref a, .ref st, v] ∧
  DkAt CD CB CS CI U N B ex H a y σ G g L ∧ Locked H ex y.bg ∧ (∀ x ∈ ENT, B.f x ∈ chs x) ∧ 1 ≤ B.keep ∧ B.keep ≤ 20 ∧ StpAt H st x ∧ StpOk U N v z x ∧ U.length ≤ 400 ∧ N.length ≤ 400 ∧
  ∀ (H' : Hp) (q : Addr), (∀ b o, b ≠ a → H b = some o → H' b = some o) → DkAt CD CB CS CI U N B ex H' a y (takeM B σ x z).1 G g L → OutAt H' q (takeM B σ x z).2 → Srt U (takeM B σ x z).2 → Q (.ref q) H'
theorem ok_Desk_take : FnOk PP w K mg base CX0 11 T.f_Desk_take T.d_Desk_take ["self", "step", "value"] (spDTake T.c_Desk T.c_Book T.c_State T.c_Item) := by
  refine T.F_Desk_take.ok sc_Desk_take (fun vs H Q E h => ?_) (fun cdv A outer s H vs Q E hr h => ?_)
  · obtain ⟨U, N, B, ex, a, y, σ, G, g, L, st, v, z, x, rfl, _⟩ := h
    rfl
  · obtain ⟨U, N, B, ex, a, y, σ, G, g, L, st, v, z, x, rfl, D, lk, hf, k1, k20, hst, hx, hU, hN, kk⟩ := h
    refine ⟨_, pss_cons (ps_asg (pe_lock (pe_call (ok_taken T) (hr.mono (by decide)) (by rfl) T.g_taken T.F_taken.kp (b_taken T) .nil pass0 (pa_cons (pe_fld (pv 0) rfl) (pa_cons (pe_fld (pv 0) rfl) (pa_cons (pv 1) (pa_cons (pv 2) pa_nil)))))) (pg_tup rfl (pgs_cons (AT.pg_fld (pv 0)) (pgs_cons (pg_name (i := 3) sc_Desk_take.nd rfl (.inl rfl)) pgs_nil))))
 (pss_one (ps_ret (pv 3))), ?_⟩
    obtain ⟨p, ha, hS⟩ := D.st
    obtain ⟨kv, hbg, nd, hp⟩ := D.bg.ex
    have ab : a ≠ y.bg := fun e => by rw [e, hbg] at ha; cases ha
    refine ⟨y.bg, .dK kv, hbg, trivial, fun od => ?_⟩
    have lb : ∀ b o, b ≠ y.bg → H b = some o → (upd H y.bg (.frz od (.dK kv))) b = some o := fun b o n h => by rw [upd_ne n]; exact h
    have sd : Same (dels ex H) (upd H y.bg (.frz od (.dK kv))) := fun b o h => by
      obtain ⟨n, h⟩ := dels_in h
      exact lb b o (fun e => n (by rw [e]; exact D.inx)) h
    have hfz : (upd H y.bg (.frz od (.dK kv))) y.bg = some (.frz od (.dK kv)) := upd_same
    have lk2 : ∀ b ∈ ex, ∃ o1 u1, (upd H y.bg (.frz od (.dK kv))) b = some (.frz o1 u1) := fun b hb => by
      by_cases c : b = y.bg
      · exact ⟨_, _, by rw [c]; exact hfz⟩
      · obtain ⟨o1, u1, h1⟩ := (lk b hb).resolve_left c
        exact ⟨o1, u1, lb b _ c h1⟩
    have nst : st ≠ y.bg := fun e => by
      obtain ⟨l, z1⟩ := stp_tup hst
      rw [e, hbg] at z1; cases z1
    have hst2 : StpAt (upd H y.bg (.frz od (.dK kv))) st x := by
      cases x <;> exact lb _ _ nst hst
    have B1 := D.bk.same sd
    have S1 := hS.same sd
    have hal := lb _ _ ab ha
    have hlf := lb _ _ (fun e => by have q := D.lf; rw [e, hbg] at q; cases q) D.lf
    have bk0 := D.bk
    generalize hHL : upd H y.bg (.frz od (.dK kv)) = HL at *
    refine ⟨_, rfl, a, T.c_Desk, y.dx, _, _, rfl, hal, T.cl_Desk, T.na_Desk_book, rfl, _, rfl, a, T.c_Desk, y.dx, _, _, rfl, hal, T.cl_Desk, T.na_Desk_state, rfl, _, rfl, _, rfl, y.b, y.dxb, y.d, B.f, B.ends, B.keep, p, st, v, z, x, U, N, σ, rfl, B1, hf, k1, k20, hst2, hx, S1, hU, hN, fun H2 q s2 P so => ⟨s2 _ _ hfz, ?_⟩⟩
    obtain ⟨a2, b2, hq, hS2, hO2⟩ := P
    have ok2 : ∀ b, b ∈ ex → ∃ o1 u1, H2 b = some (.frz o1 u1) := fun b hb => by
      obtain ⟨o1, u1, h1⟩ := lk2 b hb
      exact ⟨o1, u1, s2 _ _ h1⟩
    have qb : q ≠ y.bg := fun e => by rw [e, s2 _ _ hfz] at hq; cases hq
    have hq3 : (upd H2 y.bg (.dK kv)) q = some (.tup [.ref a2, .ref b2]) := by rw [upd_ne qb]; exact hq
    have ha3 : (upd H2 y.bg (.dK kv)) a = some (.ins T.c_Desk y.dx (dkF y p g)) := by rw [upd_ne ab]; exact s2 _ _ hal
    have five : (dkF y p g).length < 1000 := by show 5 < 1000; decide
    refine ⟨q, _, rfl, SqT.of hq3, rfl, _, _, rfl, ⟨_, rfl, a, T.c_Desk, y.dx, _, rfl, ha3, T.cl_Desk, T.na_Desk_state, five, _, _, rfl, rfl, _, rfl, ?_⟩⟩
    have hp4 : ∀ b o, b ≠ a → H b = some o → (upd (upd H2 y.bg (.dK kv)) a (.ins T.c_Desk y.dx (dkF y a2 g))) b = some o := fun b o n h => by
      rw [upd_ne n]
      by_cases c : b = y.bg
      · rw [c, upd_same, ← hbg, ← c]; exact h
      · rw [upd_ne c]
        exact s2 _ _ (by rw [← hHL, upd_ne c]; exact h)
    have sx : SameX H2 (dels ex (upd (upd H2 y.bg (.dK kv)) a (.ins T.c_Desk y.dx (dkF y a2 g)))) := fun b o ok h => by
      have nx : b ∉ ex := fun e => by
        obtain ⟨o1, u1, h1⟩ := ok2 b e
        rw [h1] at h; cases h; exact ok
      have na : b ≠ a := fun e => by
        rw [e, s2 _ _ hal] at h; cases h; exact ok.1 rfl
      refine dels_of nx ?_
      rw [upd_ne na, upd_ne (fun e => nx (by rw [e]; exact D.inx))]
      exact h
    have ha5 : (upd (upd H2 y.bg (.dK kv)) a (.ins T.c_Desk y.dx (dkF y a2 g))) a = some (.ins T.c_Desk y.dx (dkF y a2 g)) := upd_same
    have nal : y.lf ≠ a := fun e => by have q1 := D.lf; rw [e, ha] at q1; cases q1
    refine kk _ b2 hp4 ⟨⟨a2, ha5, StAt_X hS2 sx⟩, ?_, ⟨kv, hp4 _ _ (fun e => ab e.symm) hbg, nd, hp⟩, hp4 _ _ nal D.lf, D.inx⟩ ?_ so
    · exact Bk_X (B1.same s2) sx
    · exact OutAt_X hO2 fun b o ok h => dels_sub _ _ (sx b o ok h)
end
end K16

namespace K16
open PySem L2 SI CM BK OWN MIR StX TX TL
section
variable {w : World} {K : PySem.W.Frag} {mg : Str → Option Value} {base : Heap} (T : Txt w K mg)
/-- nothing is left to do -/
def spDSettle0 (CD CB CS CI : Addr) : Sp := fun vs H Q _ => ∃ (U : List Int) (N : List Str) (B : Bkm) (ex : List Addr) (a : Addr) (y : DkA) (σ : MIR.S) (G : List Int) (g : Int), vs = [.ref a] ∧ DkAt CD CB CS CI U N B ex H a y σ G g [] ∧ Q .non H
theorem ok_Desk_settle : FnOk PP w K mg base CX0 12 T.f_Desk_settle T.d_Desk_settle ["self"] (spDSettle0 T.c_Desk T.c_Book T.c_State T.c_Item) := by
  refine T.F_Desk_settle.ok sc_Desk_settle (fun vs H Q E h => ?_) (fun cdv A outer s H vs Q E hr h => ?_)
  · obtain ⟨U, N, B, ex, a, y, σ, G, g, rfl, _⟩ := h
    rfl
  · obtain ⟨U, N, B, ex, a, y, σ, G, g, rfl, D, q⟩ := h
    refine ⟨_, pss_cons (ps_set (i := 1) sc_Desk_settle.nd rfl (.inl rfl) pe_int)
 (pss_one (ps_while PassesOwn.never (pt_cmpR op_lt (pv 1) (pe_callB call_len_seq (by rfl) T.n_len PySem.boot_len (pa_cons (pe_fld (pv 0) rfl) pa_nil)) (nomark _))
 (pss_cons (ps_set (i := 2) sc_Desk_settle.nd rfl (.inl rfl) (pe_meth (pv 0) T.cl_Desk T.m_Desk_take (ok_Desk_take T) (hr.mono (by decide)) (b_Desk_take T) .nil pass0 (pa_cons (pe_ix ix_list (pe_fld (pv 0) rfl) (pv 1) (fun _ _ => rfl)) (pa_cons pe_non pa_nil))))
 (pss_one (ps_if (pt_cmpR op_eq (pe_ix ix_tup (pv 2) pe_int (fun _ _ => rfl)) pe_str (nomark _))
 (pss_one (ps_aug (i := 1) sc_Desk_settle.nd rfl (.inl rfl) pe_int ip_add))
 (pss_cons (ps_delL (pe_fld (pv 0) rfl) (pv 1))
 (pss_one (ps_set (i := 1) sc_Desk_settle.nd rfl (.inl rfl) pe_int)))))))), ?_⟩
    obtain ⟨p, ha, hS⟩ := D.st
    refine ⟨fun n τ H' => τ = [some (.ref a), some (.int 0), none] ∧ H' = H, ⟨0, rfl, rfl⟩, ?_⟩
    rintro n τ H' ⟨rfl, rfl⟩
    refine ⟨_, rfl, _, rfl, a, T.c_Desk, y.dx, _, _, rfl, ha, T.cl_Desk, T.na_Desk_left, rfl, y.lf, _, rfl, .inl (SqL.of D.lf), _, _, rfl, rfl, false, rfl, iteF q⟩
/-- a commit that nobody hinders, an abort -/
def spDAsk0 (CD CB CS CI : Addr) : Sp := fun vs H Q _ => ∃ (U : List Int) (N : List Str) (B : Bkm) (ex : List Addr) (a : Addr) (y : DkA) (σ : MIR.S) (G : List Int) (g : Int) (st : Addr) (x : Stp) (wd : Str), vs = [.ref a, .ref st, .non] ∧
  DkAt CD CB CS CI U N B ex H a y σ G g [] ∧ Locked H ex y.bg ∧ (∀ x ∈ ENT, B.f x ∈ chs x) ∧ 1 ≤ B.keep ∧ B.keep ≤ 20 ∧ StpAt H st x ∧ StpOk U N .non 0 x ∧ U.length ≤ 400 ∧ N.length ≤ 400 ∧
  (takeM B σ x 0).2.word = wd ∧ wd ≠ "void" ∧ wd ≠ "wait" ∧ (wd = "abort" → ∃ s, x = .abo s) ∧
  ∀ (H' : Hp) (q : Addr), (∀ b o, b ≠ a → H b = some o → H' b = some o) → DkAt CD CB CS CI U N B ex H' a y (takeM B σ x 0).1 G g [] → OutAt H' q (takeM B σ x 0).2 → Q (.ref q) H'
theorem ok_Desk_ask : FnOk PP w K mg base CX0 13 T.f_Desk_ask T.d_Desk_ask ["self", "step", "value"] (spDAsk0 T.c_Desk T.c_Book T.c_State T.c_Item) := by
  refine T.F_Desk_ask.ok sc_Desk_ask (fun vs H Q E h => ?_) (fun cdv A outer s H vs Q E hr h => ?_)
  · obtain ⟨U, N, B, ex, a, y, σ, G, g, st, x, wd, rfl, _⟩ := h
    rfl
  · obtain ⟨U, N, B, ex, a, y, σ, G, g, st, x, wd, rfl, D, lk, hf, k1, k20, hst, hx, hU, hN, hw, n1, n2, n3, kk⟩ := h
    refine ⟨_, pss_cons (ps_expr (pe_meth0 (pv 0) T.cl_Desk T.m_Desk_settle (ok_Desk_settle T) (hr.mono (by decide)) (b_Desk_settle T) .nil pass0))
 (pss_cons (ps_set (i := 3) sc_Desk_ask.nd rfl (.inl rfl) (pe_meth (pv 0) T.cl_Desk T.m_Desk_take (ok_Desk_take T) (hr.mono (by decide)) (b_Desk_take T) .nil pass0 (pa_cons (pv 1) (pa_cons (pv 2) pa_nil))))
 (pss_cons (ps_asg (pv 3) (pg_tup rfl (pgs_cons (pg_name (i := 4) sc_Desk_ask.nd rfl (.inl rfl)) (pgs_cons (pg_name (i := 5) sc_Desk_ask.nd rfl (.inl rfl)) (pgs_cons (pg_name (i := 6) sc_Desk_ask.nd rfl (.inl rfl)) (pgs_cons (pg_name (i := 7) sc_Desk_ask.nd rfl (.inl rfl)) pgs_nil))))))
 (pss_cons (ps_if (pt_cmpR op_eq (pv 4) pe_str (nomark _))
 pss_never
 pss_nil)
 (pss_cons (ps_if (pt_cmpR op_eq (pv 4) pe_str (nomark _))
 pss_never
 pss_nil)
 (pss_cons (ps_if (PW.pt (pw_and (pt_cmpR op_eq (pv 4) pe_str (nomark _)) (pw_and1 (pt_cmpR op_ne (pe_ix ix_tup (pv 1) pe_int (fun _ _ => rfl)) pe_str (nomark _)))))
 pss_never
 pss_nil)
 (pss_one (ps_ret (pv 3)))))))), ?_⟩
    obtain ⟨p, ha, hS⟩ := D.st
    refine ⟨_, rfl, a, y.dx, _, rfl, ha, (by kernel_rfl), U, N, B, ex, a, y, σ, G, g, rfl, D, ?_⟩
    refine ⟨_, rfl, a, y.dx, _, rfl, ha, (by kernel_rfl), _, rfl, _, rfl, U, N, B, ex, a, y, σ, G, g, [], st, .non, 0, x, rfl, D, lk, hf, k1, k20, hst, hx, hU, hN, fun H1 q km D1 hO so => ?_⟩
    obtain ⟨m, v, fl, h1, h2, h3, h4⟩ := hO
    rw [hw] at h1
    have nw : ∀ {u : Str}, wd ≠ u → ¬ (V.str wd = V.str u) := fun n e => n (V.str.inj e)
    refine ⟨_, rfl, q, _, rfl, SqT.of h1, rfl, _, _, rfl, _, _, rfl, _, _, rfl, _, _, rfl, rfl, _, rfl, rfl, _, rfl, ?_⟩
    rw [decide_eq_false (nw n1)]
    refine iteF ⟨_, rfl, rfl, _, rfl, ?_⟩
    rw [decide_eq_false (nw n2)]
    refine iteF ⟨_, rfl, rfl, _, rfl, ?_⟩
    have fin := kk H1 q km D1 ⟨m, v, fl, by rw [hw]; exact h1, h2, h3, h4⟩
    by_cases c : wd = "abort"
    · obtain ⟨sa, rfl⟩ := n3 c
      subst c
      rw [decide_eq_true rfl]
      have hst1 : H1 st = some (.tup [.str "abort", .int sa]) := km _ _ (fun e => by
        have z1 : H st = some (.tup [.str "abort", .int sa]) := hst
        rw [e, ha] at z1; cases z1) hst
      refine iteT ⟨_, rfl, st, _, _, .str "abort", rfl, rfl, SqT.of hst1, rfl, rfl, _, rfl, ?_⟩
      rw [decide_eq_true rfl]
      exact iteF ⟨_, rfl, fin⟩
    · rw [decide_eq_false (nw c)]
      exact iteF (iteF ⟨_, rfl, fin⟩)
end
end K16

namespace K16
open PySem L2 SI CM BK OWN MIR StX TX TL
section
variable {w : World} {K : PySem.W.Frag} {mg : Str → Option Value} {base : Heap} (T : Txt w K mg)
def TrnAt (C : Addr) (H : Hp) (p a : Addr) (n : Int) : Prop := ∃ (dx sp lf : Addr), H p = some (.ins C dx [(("desk" : Str), .ref a), (("stamp" : Str), .ref sp), (("number" : Str), .int n), (("left" : Str), .ref lf)])
theorem TrnAt.same {C p a : Addr} {n : Int} {H H' : Hp} (h : TrnAt C H p a n) (s : Same H H') : TrnAt C H' p a n := by
  obtain ⟨dx, sp, lf, h⟩ := h
  exact ⟨dx, sp, lf, s _ _ h⟩
theorem Locked.same {H H' : Hp} {ex : List Addr} {bg : Addr} (h : Locked H ex bg) (s : Same H H') : Locked H' ex bg := fun b hb => (h b hb).imp id fun ⟨o, u, z⟩ => ⟨o, u, s _ _ z⟩
/-- a commit that nobody hinders; an abort -/
def spTEnd (CT CD CB CS CI : Addr) (which : Int → Stp) : Sp := fun vs H Q _ => ∃ (U : List Int) (N : List Str) (B : Bkm) (ex : List Addr) (a : Addr) (y : DkA) (σ : MIR.S) (G : List Int) (g : Int) (p : Addr) (n : Int), vs = [.ref p] ∧ TrnAt CT H p a n ∧
  DkAt CD CB CS CI U N B ex H a y σ G g [] ∧ Locked H ex y.bg ∧ (∀ x ∈ ENT, B.f x ∈ chs x) ∧ 1 ≤ B.keep ∧ B.keep ≤ 20 ∧ n ∈ U ∧ U.length ≤ 400 ∧ N.length ≤ 400 ∧ σ.ov n = none ∧ waitsOf σ n = [] ∧
  ∀ (H' : Hp), (∀ b o, b ≠ a → H b = some o → H' b = some o) → DkAt CD CB CS CI U N B ex H' a y (takeM B σ (which n) 0).1 G g [] → Q .non H'
theorem ok_Transaction_commit : FnOk PP w K mg base CX0 14 T.f_Transaction_commit T.d_Transaction_commit ["self"] (spTEnd T.c_Transaction T.c_Desk T.c_Book T.c_State T.c_Item .com) := by
  refine T.F_Transaction_commit.ok sc_Transaction_commit (fun vs H Q E h => ?_) (fun cdv A outer s H vs Q E hr h => ?_)
  · obtain ⟨U, N, B, ex, a, y, σ, G, g, p, n, rfl, _⟩ := h
    rfl
  · obtain ⟨U, N, B, ex, a, y, σ, G, g, p, n, rfl, ⟨dx, sp, lf, hp⟩, D, lk, hf, k1, k20, hn, hU, hN, ho, hw, kk⟩ := h
    refine ⟨_, pss_one (ps_expr (pe_meth (pe_fld (pv 0) rfl) T.cl_Desk T.m_Desk_ask (ok_Desk_ask T) (hr.mono (by decide)) (b_Desk_ask T) .nil pass0 (pa_cons (pe_tup (pa_cons pe_str (pa_cons (pe_fld (pv 0) rfl) pa_nil))) (pa_cons pe_non pa_nil)))), ?_⟩
    obtain ⟨p0, ha, hS⟩ := D.st
    have two : 2 ≤ sizeLine := by decide
    refine ⟨_, rfl, p, T.c_Transaction, dx, _, _, rfl, hp, T.cl_Transaction, T.na_Transaction_desk, rfl, a, y.dx, _, rfl, ha, (by kernel_rfl), _, rfl, p, T.c_Transaction, dx, _, _, rfl, hp, T.cl_Transaction, T.na_Transaction_number, rfl, two, fun st nst => ?_⟩
    have s1 := same_new (o := .tup [.str "commit", .int n]) (Same.refl H) nst
    have hst : (upd H st (.tup [.str "commit", .int n])) st = some (.tup [.str "commit", .int n]) := upd_same
    generalize upd H st (.tup [.str "commit", .int n]) = H1 at s1 hst ⊢
    have hw1 : (takeM B σ (.com n) 0).2.word = "commit" := by
      unfold takeM
      rw [if_neg (by show ¬ (σ.ov n).isSome = true; rw [ho]; exact Bool.false_ne_true)]
      dsimp only
      rw [hw]
      rfl
    exact ⟨U, N, B, ex, a, y, σ, G, g, st, .com n, "commit", rfl, D.same s1, lk.same s1, hf, k1, k20, hst, hn, hU, hN, hw1, by decide +kernel, by decide +kernel, fun e => absurd e (by decide +kernel), fun H' q km D' _ => kk H' (fun b o n z => km b o n (s1 b o z)) D'⟩
theorem ok_Transaction_abort : FnOk PP w K mg base CX0 14 T.f_Transaction_abort T.d_Transaction_abort ["self"] (spTEnd T.c_Transaction T.c_Desk T.c_Book T.c_State T.c_Item .abo) := by
  refine T.F_Transaction_abort.ok sc_Transaction_abort (fun vs H Q E h => ?_) (fun cdv A outer s H vs Q E hr h => ?_)
  · obtain ⟨U, N, B, ex, a, y, σ, G, g, p, n, rfl, _⟩ := h
    rfl
  · obtain ⟨U, N, B, ex, a, y, σ, G, g, p, n, rfl, ⟨dx, sp, lf, hp⟩, D, lk, hf, k1, k20, hn, hU, hN, ho, hw, kk⟩ := h
    refine ⟨_, pss_one (ps_expr (pe_meth (pe_fld (pv 0) rfl) T.cl_Desk T.m_Desk_ask (ok_Desk_ask T) (hr.mono (by decide)) (b_Desk_ask T) .nil pass0 (pa_cons (pe_tup (pa_cons pe_str (pa_cons (pe_fld (pv 0) rfl) pa_nil))) (pa_cons pe_non pa_nil)))), ?_⟩
    obtain ⟨p0, ha, hS⟩ := D.st
    have two : 2 ≤ sizeLine := by decide
    refine ⟨_, rfl, p, T.c_Transaction, dx, _, _, rfl, hp, T.cl_Transaction, T.na_Transaction_desk, rfl, a, y.dx, _, rfl, ha, (by kernel_rfl), _, rfl, p, T.c_Transaction, dx, _, _, rfl, hp, T.cl_Transaction, T.na_Transaction_number, rfl, two, fun st nst => ?_⟩
    have s1 := same_new (o := .tup [.str "abort", .int n]) (Same.refl H) nst
    have hst : (upd H st (.tup [.str "abort", .int n])) st = some (.tup [.str "abort", .int n]) := upd_same
    generalize upd H st (.tup [.str "abort", .int n]) = H1 at s1 hst ⊢
    have hw1 : (takeM B σ (.abo n) 0).2.word = "abort" := by
      unfold takeM
      rw [if_neg (by show ¬ (σ.ov n).isSome = true; rw [ho]; exact Bool.false_ne_true)]
    exact ⟨U, N, B, ex, a, y, σ, G, g, st, .abo n, "abort", rfl, D.same s1, lk.same s1, hf, k1, k20, hst, hn, hU, hN, hw1, by decide +kernel, by decide +kernel, fun _ => ⟨n, rfl⟩, fun H' q km D' _ => kk H' (fun b o n z => km b o n (s1 b o z)) D'⟩
end
end K16

namespace K16
open PySem L2 SI CM BK OWN MIR StX TX TL
section
variable {w : World} {K : PySem.W.Frag} {mg : Str → Option Value} {base : Heap} (T : Txt w K mg)
/-- the __init__ of an error with one field, behind a text of its own -/
def spBad (C : Addr) (f : Str) : Sp := fun vs H Q _ => ∃ a v, vs = [.ref a, v] ∧ H a = some (exo a C none) ∧ ∀ dx, H dx = none → dx ≠ a → Q .non (upd (upd H dx (exd dx [(f, v)])) a (exo a C (some dx)))
theorem ok_BadStamp : FnOk PP w K mg base CX0 1 T.f_BadStamp_init T.d_BadStamp_init ["self", "given"] (spBad T.c_BadStamp "given") := by
  refine ok_sup (N := ["self", "given", "__class__"]) T.S_BadStamp_init sc_BadStamp_init rfl (show (defScope s_BadStamp_init).names.lookup ("super" : Str) = some .globalImplicit by decide +kernel) rfl rfl (fun vs H Q E h => ?_) (fun A outer s H vs Q E hr h => ?_)
  · obtain ⟨a, v, rfl, _⟩ := h
    rfl
  · obtain ⟨a, v, rfl, ha, k⟩ := h
    refine ⟨a, _, _, _, pa_cons pe_str pa_nil, pss_one (ps_ost (pv 0) (pv 1)), rfl, fun M B u Q' E' s' z => PySem.Calls.evalArgs_plain z, rfl, rfl, rfl, ha, by show 1 ≤ 1000; decide, ha, ?_⟩
    exact ⟨_, rfl, _, rfl, _, _, rfl, T.oex_BadStamp, T.na_BadStamp_given, .inl ⟨ha, fun dx n ne => k dx n ne⟩⟩
/-- a Stamp with the number n stands at p -/
def SnAt (C : Addr) (H : Hp) (p : Addr) (n : Int) : Prop := ∃ dx, H p = some (.ins C dx [(("number" : Str), .int n)])
def spSInit (C B : Addr) : Sp := fun vs H Q E => ∃ p dx v, vs = [.ref p, v] ∧ H p = some (.ins C dx []) ∧ flat4 v = true ∧
  (stampV v 0 = true → Q .non (upd H p (.ins C dx [(("number" : Str), v)]))) ∧ (stampV v 0 = false → ∀ d, H d = none → E (.ref B) (some d) (upd H d (.xd [(("given" : Str), v)])))
theorem ok_Stamp_init : FnOk PP w K mg base (L2.CX PP w) 4 T.f_Stamp_init T.d_Stamp_init ["self", "number"] (spSInit T.c_Stamp T.c_BadStamp) := by
  refine T.F_Stamp_init.okX sc_Stamp_init (fun vs H Q E h => ?_) (fun cdv A outer s H vs Q E hr h => ?_)
  · obtain ⟨p, dx, v, rfl, _⟩ := h
    rfl
  · obtain ⟨p, dx, v, rfl, hp, fv, kT, kF⟩ := h
    obtain ⟨ds, rd, hb⟩ := b1_is_stamp T
    have hr1 : Room 1 _ := hr.mono (by decide)
    have hr2 : Room 2 _ := hr.mono (by decide)
    refine ⟨_, pss_cons (ps_if (pt_not (pt_val (pe_call (ok_is T) hr1 (by rfl) T.g_is_stamp T.F_is_stamp.kp hb rd pass0 (pa_cons (pv 1) pa_nil))))
      (pss_one (ps_raise rfl (takes_of rfl rfl rfl rfl) (pmk_oex T.oex_BadStamp T.i_BadStamp_init T.t_BadStamp_init (ok_BadStamp T) hr2 (b_BadStamp_init T) .nil pass0 (by rfl) T.g_BadStamp (pa_cons (pv 1) pa_nil)))) pss_nil)
      (pss_one (ps_fld (pv 0) (pv 1) rfl)), ?_⟩
    refine ⟨_, rfl, v, 0, rfl, fv, _, rfl, ?_⟩
    cases e : stampV v 0 with
    | true =>
      refine iteF ?_
      exact ⟨_, rfl, _, rfl, p, T.c_Stamp, dx, _, rfl, hp, T.cl_Stamp, T.na_Stamp_number, by show 0 < 1000; decide, kT e⟩
    | false =>
      refine iteT ?_
      refine ⟨_, rfl, by show 1 ≤ 1000; decide, fun a ha => ?_⟩
      refine ⟨a, v, rfl, upd_same, fun d hd hne => ⟨rfl, d, [(("given" : Str), v)], upd_same, ?_, ?_, ?_⟩⟩
      · rw [upd_ne hne, upd_same]
      · rw [upd_ne hne] at hd
        exact hd
      · rw [upd_ne hne] at hd
        have z := kF e d hd
        have eh : upd (del (upd (upd (upd H a (exo a T.c_BadStamp none)) d (exd d [(("given" : Str), v)])) a (exo a T.c_BadStamp (some d))) a) d (.xd [(("given" : Str), v)]) = upd H d (.xd [(("given" : Str), v)]) := by
          funext b
          by_cases hbd : b = d
          · rw [hbd, upd_same, upd_same]
          · rw [upd_ne hbd, upd_ne hbd]
            by_cases hba : b = a
            · rw [hba, del_same, ha]
            · rw [del_ne hba, upd_ne hba, upd_ne hbd, upd_ne hba]
        rw [eh]
        exact z
def spCmp (C : Addr) (f : Int → Int → Bool) : Sp := fun vs H Q _ => ∃ p q x y, vs = [.ref p, .ref q] ∧ SnAt C H p x ∧ SnAt C H q y ∧ Q (.bl (f x y)) H
theorem st_ty {H : Hp} {q dy : Addr} {fs : List (Str × V)} (h : H q = some (.ins T.c_Stamp dy fs)) : TyX K H (.ref q) (.ref T.c_Stamp) := .base (.ins h T.cl_Stamp T.isi_Stamp.ha T.isg.hn T.isg.ht T.isi_Stamp.hm)
theorem ok_lt : FnOk PP w K mg base CX0 1 T.f_Stamp_lt T.d_Stamp_lt ["self", "other"] (spCmp T.c_Stamp fun x y => decide (x < y)) := by
  refine T.F_Stamp_lt.ok sc_Stamp_lt (fun vs H Q E h => ?_) (fun cdv A outer s H vs Q E hr h => ?_)
  · obtain ⟨p, q, x, y, rfl, _⟩ := h
    rfl
  · obtain ⟨p, q, x, y, rfl, ⟨dx, hp⟩, ⟨dy, hq⟩, k⟩ := h
    refine ⟨_, pss_cons (ps_if (pt_not (pt_val (pe_callB call_isi (by rfl) T.n_isinstance (by decide +kernel) (pa_cons (pv 1) (pa_cons (pe_glob (v := .ref T.c_Stamp) (by rfl) T.g_Stamp rfl) pa_nil))))) pss_never pss_nil)
      (pss_one (ps_ret (pe_cmpR op_lt (pe_fld (pv 0) rfl) (pe_fld (pv 1) rfl) (nomark _)))), ?_⟩
    refine ⟨_, rfl, _, _, _, _, true, rfl, ClsV.own _, st_ty T hq, T.kit_Stamp, _, rfl, ?_⟩
    refine iteF ?_
    exact ⟨_, rfl, p, _, dx, _, _, rfl, hp, T.cl_Stamp, T.na_Stamp_number, rfl, _, rfl, q, _, dy, _, _, rfl, hq, T.cl_Stamp, T.na_Stamp_number, rfl, _, _, rfl, rfl, k⟩
theorem SnAt.same {C : Addr} {H H' : Hp} {p : Addr} {n : Int} (s : Same H H') (h : SnAt C H p n) : SnAt C H' p n := by
  obtain ⟨dx, e⟩ := h
  exact ⟨dx, s _ _ e⟩
theorem cmp_of {C : Addr} {f : Int → Int → Bool} {p q : Addr} {x y : Int} {H : Hp} {R : VK} (hp : SnAt C H p x) (hq : SnAt C H q y) (r : R (.bl (f x y)) H) : rOwnI C (fun vs H Q E => spCmp C f (vs ++ []) H Q E) E0 (.ref p) (.ref q) H R := by
  obtain ⟨dx, hp'⟩ := id hp
  obtain ⟨dy, hq'⟩ := id hq
  exact ⟨p, dx, _, q, dy, _, rfl, rfl, hp', hq', p, q, x, y, rfl, hp, hq, r⟩
end
end K16

namespace K16
open PySem L2 SI CM BK OWN MIR StX TX TL
section
variable {w : World} {K : PySem.W.Frag} {mg : Str → Option Value} {base : Heap} (T : Txt w K mg)
/-- a new desk -/
def spDInit (CD CB CS CI : Addr) : Sp := fun vs H Q _ => ∃ (a b dx dxb d : Addr) (B : Bkm), vs = [.ref a, .ref b] ∧ H a = some (.ins CD dx []) ∧ Bk CB H b dxb d B.f B.ends (B.keep : Int) ∧ Gd B.f B.ends (B.keep : Int) ∧
  ∀ (H' : Hp) (y : DkA), (∀ x o, x ≠ a → H x = some o → H' x = some o) → H y.bg = none → H y.lf = none → (∀ (U : List Int) (N : List Str) (ex : List Addr), (∀ x ∈ ex, ∃ od u, H x = some (.frz od u)) → DkAt CD CB CS CI U N B (y.bg :: ex) H' a y s0 [] 0 []) → Q .non H'
theorem ok_Desk_init : FnOk PP w K mg base CX0 9 T.f_Desk_init T.d_Desk_init ["self", "book"] (spDInit T.c_Desk T.c_Book T.c_State T.c_Item) := by
  refine T.F_Desk_init.ok sc_Desk_init (fun vs H Q E h => ?_) (fun cdv A outer s H vs Q E hr h => ?_)
  · obtain ⟨a, b, dx, dxb, d, B, rfl, _⟩ := h
    rfl
  · obtain ⟨a, b, dx, dxb, d, B, rfl, ha, hB, G, k⟩ := h
    have zero : 0 ≤ sizeLine := by decide
    refine ⟨_, pss_cons (ps_fld (pv 0) (pe_meth0 (pv 1) T.cl_Book T.m_Book_copy (ok_copy T) (hr.mono (by decide)) (b_Book_copy T) .nil pass0) rfl)
 (pss_cons (ps_fld (pv 0) (pe_call0 (ok_first T) (hr.mono (by decide)) (by rfl) T.g_first_state T.F_first_state.kp (b_first_state T) .nil pass0) rfl)
 (pss_cons (ps_fld (pv 0) pe_dnewK rfl)
 (pss_cons (ps_fld (pv 0) pe_int rfl)
 (pss_one (ps_fld (pv 0) (pe_lst pa_nil) rfl))))), ?_⟩
    refine ⟨_, rfl, b, dxb, _, rfl, hB.ins, (by kernel_rfl), b, dxb, d, _, _, _, rfl, hB, G, fun H1 b' dx' d' s1 nb nd hB1 => ?_⟩
    refine ⟨_, rfl, a, T.c_Desk, dx, _, rfl, s1 _ _ ha, T.cl_Desk, T.na_Desk_book, by show 0 < 1000; decide, ?_⟩
    refine ⟨rfl, fun H3 p s3 np hS => ?_⟩
    have ha3 : H3 a = some (.ins T.c_Desk dx [(("book" : Str), .ref b')]) := s3 _ _ upd_same
    have sb3 : ∀ x o, x ≠ a → H1 x = some o → H3 x = some o := fun x o n z => s3 _ _ (by rw [upd_ne n]; exact z)
    have s3b : Bk T.c_Book H1 b' dx' d' B.f B.ends (B.keep : Int) → Bk T.c_Book H3 b' dx' d' B.f B.ends (B.keep : Int) := fun z => ⟨sb3 _ _ (fun e => by rw [e, ha] at nb; cases nb) z.ins, sb3 _ _ (fun e => by rw [e, ha] at nd; cases nd) z.tbl⟩
    refine ⟨_, rfl, a, T.c_Desk, dx, _, rfl, ha3, T.cl_Desk, T.na_Desk_state, by show 1 < 1000; decide, ?_⟩
    refine fun bg nbg => ⟨_, rfl, a, T.c_Desk, dx, _, rfl, kp nbg upd_same, T.cl_Desk, T.na_Desk_begun, by show 2 < 1000; decide, ?_⟩
    refine ⟨_, rfl, a, T.c_Desk, dx, _, rfl, upd_same, T.cl_Desk, T.na_Desk_greatest, by show 3 < 1000; decide, ?_⟩
    refine ⟨zero, fun lf nlf => ⟨_, rfl, a, T.c_Desk, dx, _, rfl, kp nlf upd_same, T.cl_Desk, T.na_Desk_left, by show 4 < 1000; decide, ?_⟩⟩
    have ba : bg ≠ a := fun e => by rw [e, upd_same] at nbg; cases nbg
    have la : lf ≠ a := fun e => by rw [e, upd_same] at nlf; cases nlf
    rw [upd_ne ba] at nbg
    rw [upd_ne la] at nlf
    have lb : lf ≠ bg := fun e => by
      rw [e, upd_ne ba, upd_same] at nlf
      cases nlf
    have l3 : H3 lf = none := by rw [upd_ne la, upd_ne lb, upd_ne la] at nlf; exact nlf
    have back : ∀ x, x ≠ a → H3 x = none → H x = none := fun x n z => by
      cases e : H x with
      | none => rfl
      | some o => rw [sb3 x o n (s1 _ _ e)] at z; cases z
    have fin : ∀ Hf, Hf a = some (.ins T.c_Desk dx (dkF ⟨dx, b', dx', d', bg, lf⟩ p 0)) → Hf bg = some (.dK []) → Hf lf = some (.lst []) → (∀ b o, b ≠ a → b ≠ bg → b ≠ lf → H3 b = some o → Hf b = some o) → Q .non Hf := fun Hf h1 h2 h3 km => by
      refine k Hf ⟨dx, b', dx', d', bg, lf⟩ (fun x o n z => ?_) (back _ ba nbg) (back _ la l3) fun U N ex hex => ?_
      · have z3 := sb3 x o n (s1 _ _ z)
        exact km x o n (ne_of_none z3 nbg) (ne_of_none z3 l3) z3
      · have SX : SameX H3 (dels (bg :: ex) Hf) := fun b o ok z => by
          have na : b ≠ a := fun e => by rw [e, ha3] at z; cases z; exact ok.1 rfl
          refine dels_of (fun m => ?_) (km b o na (ne_of_none z nbg) (ne_of_none z l3) z)
          rcases List.mem_cons.mp m with e | m
          · exact ne_of_none z nbg e
          · obtain ⟨od, u, hf⟩ := hex b m
            rw [sb3 b _ na (s1 _ _ hf)] at z
            cases z
            exact ok
        exact ⟨⟨p, h1, StAt_X (hS U N) SX⟩, Bk_X (s3b hB1) SX, dr_nil h2 fun k => by cases k <;> rfl, h3, List.mem_cons_self ..⟩
    refine fin _ upd_same ?_ ?_ fun b o n1 n2 n3 z => ?_
    · rw [upd_ne ba, upd_ne (Ne.symm lb), upd_ne ba, upd_ne ba]; exact upd_same
    · rw [upd_ne la]; exact upd_same
    · simp only [upd_ne n1, upd_ne n2, upd_ne n3]; exact z
/-- a new transaction -/
def trF (a sp : Addr) (n : Int) (lf : Addr) : List (Str × V) := [("desk", .ref a), ("stamp", .ref sp), ("number", .int n), ("left", .ref lf)]
def spTInit (CT CN : Addr) : Sp := fun vs H Q _ => ∃ (p a sp lf dx : Addr) (n : Int), vs = [.ref p, .ref a, .ref sp, .ref lf] ∧ H p = some (.ins CT dx []) ∧ SnAt CN H sp n ∧ ∀ H', ButP p H H' → H' p = some (.ins CT dx (trF a sp n lf)) → Q .non H'
theorem ok_Transaction_init : FnOk PP w K mg base CX0 1 T.f_Transaction_init T.d_Transaction_init ["self", "desk", "stamp", "left"] (spTInit T.c_Transaction T.c_Stamp) := by
  refine T.F_Transaction_init.ok sc_Transaction_init (fun vs H Q E h => ?_) (fun cdv A outer s H vs Q E hr h => ?_)
  · obtain ⟨p, a, sp, lf, dx, n, rfl, _⟩ := h
    rfl
  · obtain ⟨p, a, sp, lf, dx, n, rfl, hp, ⟨dxs, hs⟩, k⟩ := h
    have sne : sp ≠ p := fun e => by rw [e, hp] at hs; exact absurd (HO.ins.inj (Option.some.inj hs)).2.2 (by simp)
    refine ⟨_, pss_cons (ps_fld (pv 0) (pv 1) rfl)
 (pss_cons (ps_fld (pv 0) (pv 2) rfl)
 (pss_cons (ps_fld (pv 0) (pe_fld (pv 2) rfl) rfl)
 (pss_one (ps_fld (pv 0) (pv 3) rfl)))), ?_⟩
    refine ⟨_, rfl, _, rfl, p, T.c_Transaction, dx, _, rfl, hp, T.cl_Transaction, T.na_Transaction_desk, by show 0 < 1000; decide, ?_⟩
    refine ⟨_, rfl, _, rfl, p, T.c_Transaction, dx, _, rfl, upd_same, T.cl_Transaction, T.na_Transaction_stamp, by show 1 < 1000; decide, ?_⟩
    refine ⟨_, rfl, sp, T.c_Stamp, dxs, _, _, rfl, by rw [upd_ne sne, upd_ne sne]; exact hs, T.cl_Stamp, T.na_Stamp_number, rfl, _, rfl, p, T.c_Transaction, dx, _, rfl, upd_same, T.cl_Transaction, T.na_Transaction_number, by show 2 < 1000; decide, ?_⟩
    refine ⟨_, rfl, _, rfl, p, T.c_Transaction, dx, _, rfl, upd_same, T.cl_Transaction, T.na_Transaction_left, by show 3 < 1000; decide, ?_⟩
    exact k _ (fun x o n z => by rw [upd_ne n, upd_ne n, upd_ne n, upd_ne n]; exact z) upd_same
end
end K16

namespace K16
open PySem L2 SI CM BK OWN MIR StX TX TL
section
variable {w : World} {K : PySem.W.Frag} {mg : Str → Option Value} {base : Heap} (T : Txt w K mg)
def nonV (g : Int) : V → V
  | .non => .int (g + 1)
  | v => v
theorem PBg.put {H : Hp} {d : Addr} {G : List Int} {n : Int} (D : DR H d (PBg G)) {kv : List (Key × V)} (e : H d = some (.dK kv)) : DR (upd H d (.dK (putK kv (Sum.inl n) (.bl true)))) d (PBg (n :: G)) := by
  obtain ⟨kv', e', nd, hp⟩ := D.ex
  rw [e] at e'
  cases e'
  refine ⟨_, upd_same, nd_put nd, fun k => ?_⟩
  rw [valV_put]
  by_cases c : k = Sum.inl n
  · rw [if_pos c, c]
    show some (V.bl true) = if n ∈ n :: G then some (.bl true) else none
    rw [if_pos (List.mem_cons_self ..)]
  · rw [if_neg c]
    have z := hp k
    cases k with
    | inr x => exact z
    | inl t =>
      have nt : t ≠ n := fun q => c (by rw [q])
      show valV kv (Sum.inl t) = if t ∈ n :: G then some (.bl true) else none
      rw [show valV kv (Sum.inl t) = if t ∈ G then some (.bl true) else none from z]
      by_cases m : t ∈ G
      · rw [if_pos m, if_pos (List.mem_cons_of_mem _ m)]
      · rw [if_neg m, if_neg (fun q => (List.mem_cons.mp q).elim nt m)]
theorem PBg.len {G : List Int} {kv : List (Key × V)} (nd : (kv.map (·.1)).Nodup) (h : ∀ k, PBg G k (valV kv k)) : kv.length ≤ G.length := by
  refine len_keys Sum.inl nd fun x hx => ?_
  have e := val_nodup nd x hx
  have z := h x.1
  rw [e] at z
  obtain ⟨k, v⟩ := x
  cases k with
  | inr t => cases z
  | inl n =>
    refine ⟨n, ?_, rfl⟩
    have z' : some v = if n ∈ G then some (V.bl true) else none := z
    by_cases m : n ∈ G
    · exact m
    · rw [if_neg m] at z'; cases z'
/-- a transaction is begun -/
def spDBegin (CD CB CS CI CT CN BX : Addr) : Sp := fun vs H Q E => ∃ (U : List Int) (N : List Str) (B : Bkm) (ex : List Addr) (a : Addr) (y : DkA) (σ : MIR.S) (G : List Int) (g : Int) (v : V), vs = [.ref a, v] ∧ flat4 v = true ∧ DkAt CD CB CS CI U N B ex H a y σ G g [] ∧ 0 ≤ g ∧ G.length ≤ 400 ∧
  (∀ n, nonV g v = .int n → stampV (.int n) (g + 1) = true → ∀ (H' : Hp) (p dx sp : Addr), (∀ x o, x ≠ a → x ≠ y.bg → H x = some o → H' x = some o) → H p = none → H' p = some (.ins CT dx (trF a sp n y.lf)) → SnAt CN H' sp n → DkAt CD CB CS CI U N B ex H' a y σ (n :: G) n [] → Q (.ref p) H') ∧
  (stampV (nonV g v) (g + 1) = false → ∀ d, H d = none → E (.ref BX) (some d) (upd H d (.xd [(("given" : Str), nonV g v)])))
theorem ok_Desk_begin : FnOk PP w K mg base (L2.CX PP w) 13 T.f_Desk_begin T.d_Desk_begin ["self", "stamp"] (spDBegin T.c_Desk T.c_Book T.c_State T.c_Item T.c_Transaction T.c_Stamp T.c_BadStamp) := by
  refine T.F_Desk_begin.ok (CX := L2.CX PP w) sc_Desk_begin (fun vs H Q E h => ?_) (fun cdv A outer s H vs Q E hr h => ?_)
  · obtain ⟨U, N, B, ex, a, y, σ, G, g, v, rfl, _⟩ := h
    rfl
  · obtain ⟨U, N, B, ex, a, y, σ, G, g, v, rfl, fv, D, g0, lG, kT, kF⟩ := h
    obtain ⟨g_kb_is_stamp, hkb_is_stamp⟩ := kbIS T
    refine ⟨_, pss_cons (ps_expr (pe_meth0 (pv 0) T.cl_Desk T.m_Desk_settle (ok_Desk_settle T) (hr.mono (by decide)) (b_Desk_settle T) .nil pass0))
 (C8.pss_cut (ps_set (i := 2) sc_Desk_begin.nd rfl (.inl rfl) (pe_ifExp (pt_cmpR op_isN (pv 1) pe_non (nomark _)) (pe_op op_add (pe_fld (pv 0) rfl) pe_int) (pv 1)))
 (pss_cons (ps_if (pt_not (pt_truth (pe_callN (n := 1) (ok_is T) (hr.mono (by decide)) (by rfl) T.g_is_stamp T.F_is_stamp.kp hkb_is_stamp pass0 (pa_cons (pv 2) pa_nil) (pk_cons (pe_op op_add (pe_fld (pv 0) rfl) pe_int) pk_nil)) (by intro _; rfl)))
 (pss_one (ps_raise rfl (takes_of rfl rfl rfl rfl) (pmk_oex T.oex_BadStamp T.i_BadStamp_init T.t_BadStamp_init (ok_BadStamp T) (hr.mono (by decide)) (b_BadStamp_init T) .nil pass0 (by rfl) T.g_BadStamp (pa_cons (pv 2) pa_nil))))
 pss_nil)
 (pss_cons (ps_set (i := 3) sc_Desk_begin.nd rfl (.inl rfl) (pe_make T.mk_Transaction (ok_Transaction_init T) (hr.mono (by decide)) (by rfl) T.g_Transaction (b_Transaction_init T) .nil pass0 (pa_cons (pv 0) (pa_cons (pe_make T.mk_Stamp (ok_Stamp_init T) (hr.mono (by decide)) (by rfl) T.g_Stamp (b_Stamp_init T) .nil (passes_call (takes_of rfl rfl rfl rfl) fun _ _ _ _ h => h) (pa_cons (pv 2) pa_nil)) (pa_cons (pe_fld (pv 0) rfl) pa_nil)))))
 (pss_cons (ps_fld (pv 0) (pv 2) rfl)
 (pss_cons (ps_dput (hu_of hr) (pe_fld (pv 0) rfl) (pv 2) pe_bl rfl)
 (pss_one (ps_ret (pv 3)))))))), ?_⟩
    obtain ⟨p, ha, hS⟩ := D.st
    obtain ⟨kv, hbg, nd, hp⟩ := D.bg.ex
    refine ⟨_, rfl, a, y.dx, _, rfl, ha, (by kernel_rfl), U, N, B, ex, a, y, σ, G, g, rfl, D, ?_⟩
    refine ⟨fun τ H' => τ = [some (.ref a), some v, some (nonV g v), none] ∧ H' = H, ?_, ?_⟩
    · cases v with
      | non => exact ⟨_, rfl, rfl, _, rfl, iteT ⟨_, rfl, a, T.c_Desk, y.dx, _, _, rfl, ha, T.cl_Desk, T.na_Desk_greatest, rfl, _, _, rfl, rfl, rfl, rfl⟩⟩
      | int n => exact ⟨_, rfl, rfl, _, rfl, iteF ⟨_, rfl, rfl, rfl⟩⟩
      | bl b => exact ⟨_, rfl, rfl, _, rfl, iteF ⟨_, rfl, rfl, rfl⟩⟩
      | str b => exact ⟨_, rfl, rfl, _, rfl, iteF ⟨_, rfl, rfl, rfl⟩⟩
      | _ => cases fv
    rintro τ H' ⟨rfl, eH⟩
    rw [eH]
    clear eH H'
    have fn : flat4 (nonV g v) = true := by cases v <;> first | rfl | cases fv
    generalize nonV g v = nv at kT kF fn
    refine ⟨_, rfl, _, rfl, a, T.c_Desk, y.dx, _, _, rfl, ha, T.cl_Desk, T.na_Desk_greatest, rfl, _, _, rfl, rfl, rfl, rfl, nv, g + 1, rfl, fn, _, rfl, ?_⟩
    cases es : stampV nv (g + 1) with
    | false =>
      refine iteT ?_
      refine ⟨_, rfl, by show 1 ≤ 1000; decide, fun b hb => ⟨b, nv, rfl, upd_same, fun d hd hne => ⟨rfl, d, [(("given" : Str), nv)], upd_same, ?_, ?_, ?_⟩⟩⟩
      · rw [upd_ne hne, upd_same]
      · rw [upd_ne hne] at hd
        exact hd
      · rw [upd_ne hne] at hd
        rw [raise_heap hb]
        exact kF es d hd
    | true =>
      refine iteF ?_
      obtain ⟨n, rfl⟩ : ∃ n, nv = .int n := by
        cases nv with
        | int n => exact ⟨n, rfl⟩
        | _ => cases es
      have e0 : stampV (.int n) 0 = true := by
        have es' : (decide (g + 1 ≤ n) && decide (n ≤ top30)) = true := es
        show (decide (0 ≤ n) && decide (n ≤ top30)) = true
        rw [Bool.and_eq_true, decide_eq_true_iff, decide_eq_true_iff] at es' ⊢
        exact ⟨by omega, es'.2⟩
      refine ⟨_, rfl, _, rfl, fun sp dsx nsp ndsx nes => ⟨sp, dsx, .int n, rfl, upd_same, rfl, fun _ => ⟨rfl, ?_⟩, fun z => absurd (e0.symm.trans z) (by decide)⟩⟩
      have s1 : Same H (upd (upd (upd H dsx (.own sp)) sp (.ins T.c_Stamp dsx [])) sp (.ins T.c_Stamp dsx [(("number" : Str), .int n)])) := fun b o z => by
        rw [upd_ne (ne_of_none z nsp), upd_ne (ne_of_none z nsp), upd_ne (ne_of_none z ndsx)]; exact z
      have hs1 : (upd (upd (upd H dsx (.own sp)) sp (.ins T.c_Stamp dsx [])) sp (.ins T.c_Stamp dsx [(("number" : Str), .int n)])) sp = some (.ins T.c_Stamp dsx [(("number" : Str), .int n)]) := upd_same
      generalize upd (upd (upd H dsx (.own sp)) sp (.ins T.c_Stamp dsx [])) sp (.ins T.c_Stamp dsx [(("number" : Str), .int n)]) = H1 at s1 hs1 ⊢
      refine ⟨_, rfl, a, T.c_Desk, y.dx, _, _, rfl, s1 _ _ ha, T.cl_Desk, T.na_Desk_left, rfl, fun q dq nq ndq neq => ⟨q, a, sp, y.lf, dq, n, rfl, upd_same, ⟨dsx, by rw [upd_ne (ne_of_none hs1 nq), upd_ne (ne_of_none hs1 ndq)]; exact hs1⟩, fun H4 bt hq => ⟨rfl, ?_⟩⟩⟩
      have s4 : Same H1 H4 := fun b o z => bt b o (ne_of_none z nq) (by rw [upd_ne (ne_of_none z nq), upd_ne (ne_of_none z ndq)]; exact z)
      have s14 := s1.trans s4
      have hbg4 := s14 _ _ hbg
      have ab : y.bg ≠ a := fun e => by rw [e, ha] at hbg; cases hbg
      refine ⟨_, rfl, _, rfl, a, T.c_Desk, y.dx, _, rfl, s14 _ _ ha, T.cl_Desk, T.na_Desk_greatest, by show 5 < 1000; decide, ?_⟩
      have hb5 : (upd H4 a (.ins T.c_Desk y.dx (putF "greatest" (.int n) (dkF y p g)))) y.bg = some (.dK kv) := by rw [upd_ne ab]; exact hbg4
      refine ⟨_, rfl, a, T.c_Desk, y.dx, _, _, rfl, upd_same, T.cl_Desk, T.na_Desk_begun, rfl, _, rfl, y.bg, _, rfl, DPut.k (k := Sum.inl n) hb5 (small1000 (by have := PBg.len nd hp; omega)), ?_⟩
      refine ⟨_, rfl, ?_⟩
      have fq : H q = none := s1.free nq
      have qa : q ≠ a := fun e => by rw [e, ha] at fq; cases fq
      have qb : q ≠ y.bg := fun e => by rw [e, hbg] at fq; cases fq
      have sa : sp ≠ a := fun e => by rw [e, ha] at nsp; cases nsp
      have sb : sp ≠ y.bg := fun e => by rw [e, hbg] at nsp; cases nsp
      have lfa : y.lf ≠ a := fun e => by have z := D.lf; rw [e, ha] at z; cases z
      have lfb : y.lf ≠ y.bg := fun e => by have z := D.lf; rw [e, hbg] at z; cases z
      have km : ∀ x o, x ≠ a → x ≠ y.bg → H x = some o → (upd (upd H4 a (.ins T.c_Desk y.dx (putF "greatest" (.int n) (dkF y p g)))) y.bg (.dK (putK kv (Sum.inl n) (.bl true)))) x = some o := fun x o n1 n2 z => by
        rw [upd_ne n2, upd_ne n1]; exact s14 _ _ z
      have SX : SameX (dels ex H) (dels ex (upd (upd H4 a (.ins T.c_Desk y.dx (putF "greatest" (.int n) (dkF y p g)))) y.bg (.dK (putK kv (Sum.inl n) (.bl true))))) := fun b o ok z => by
        obtain ⟨m, z⟩ := dels_in z
        refine dels_of m (km b o (fun e => ?_) (fun e => m (by rw [e]; exact D.inx)) z)
        rw [e, ha] at z; cases z; exact ok.1 rfl
      refine kT n rfl es _ q dq sp km fq ?_ ⟨dsx, ?_⟩ ⟨⟨p, ?_, StAt_X hS SX⟩, Bk_X D.bk SX, ?_, km _ _ lfa lfb D.lf, D.inx⟩
      · rw [upd_ne qb, upd_ne qa]; exact hq
      · rw [upd_ne sb, upd_ne sa]; exact s4 _ _ hs1
      · rw [upd_ne (Ne.symm ab)]; exact upd_same
      · exact PBg.put ⟨kv, hb5, nd, hp⟩ hb5
/-- what became of a transaction -/
def stW : Option Bool → Str
  | none => "open"
  | some b => ovS b
def spDState (CD CB CS CI BX : Addr) : Sp := fun vs H Q E => ∃ (U : List Int) (N : List Str) (B : Bkm) (ex : List Addr) (a : Addr) (y : DkA) (σ : MIR.S) (G : List Int) (g n : Int), vs = [.ref a, .int n] ∧ DkAt CD CB CS CI U N B ex H a y σ G g [] ∧
  (n ∈ G → stampV (.int n) 0 = true) ∧ (n ∈ G → Q (.str (stW (σ.ov n))) H) ∧ (n ∉ G → ∀ d, H d = none → E (.ref BX) (some d) (upd H d (.xd [(("given" : Str), .int n)])))
theorem ok_Desk_state_of : FnOk PP w K mg base (L2.CX PP w) 13 T.f_Desk_state_of T.d_Desk_state_of ["self", "stamp"] (spDState T.c_Desk T.c_Book T.c_State T.c_Item T.c_BadStamp) := by
  refine T.F_Desk_state_of.okX sc_Desk_state_of (fun vs H Q E h => ?_) (fun cdv A outer s H vs Q E hr h => ?_)
  · obtain ⟨U, N, B, ex, a, y, σ, G, g, n, rfl, _⟩ := h
    rfl
  · obtain ⟨U, N, B, ex, a, y, σ, G, g, n, rfl, D, hs, kT, kF⟩ := h
    obtain ⟨_, rd1_is_stamp, hb1_is_stamp⟩ := b1_is_stamp T
    refine ⟨_, pss_cons (ps_expr (pe_meth0 (pv 0) T.cl_Desk T.m_Desk_settle (ok_Desk_settle T) (hr.mono (by decide)) (b_Desk_settle T) .nil pass0))
 (pss_cons (ps_if (PW.pt (pw_or (pt_not (pt_truth (pe_call (ok_is T) (hr.mono (by decide)) (by rfl) T.g_is_stamp T.F_is_stamp.kp hb1_is_stamp rd1_is_stamp pass0 (pa_cons (pv 1) pa_nil)) (by intro _; rfl))) (pw_or1 (pt_cmp (pc_dnotin (hu_of hr) (pv 1) (pe_fld (pv 0) rfl))))))
 (pss_one (ps_raise rfl (takes_of rfl rfl rfl rfl) (pmk_oex T.oex_BadStamp T.i_BadStamp_init T.t_BadStamp_init (ok_BadStamp T) (hr.mono (by decide)) (b_BadStamp_init T) .nil pass0 (by rfl) T.g_BadStamp (pa_cons (pv 1) pa_nil))))
 pss_nil)
 (pss_one (ps_ret (pe_dget2 (hu_of hr) (pe_fld (pe_fld (pv 0) rfl) rfl) (pv 1) pe_str (by constructor <;> rfl))))), ?_⟩
    obtain ⟨p, ha, hS⟩ := D.st
    obtain ⟨kv, hbg, nd, hp⟩ := D.bg.ex
    refine ⟨_, rfl, a, y.dx, _, rfl, ha, (by kernel_rfl), U, N, B, ex, a, y, σ, G, g, rfl, D, ?_⟩
    refine ⟨_, rfl, .int n, 0, rfl, rfl, _, rfl, ?_⟩
    cases es : stampV (.int n) 0 with
    | false =>
      have hn : n ∉ G := fun m => absurd ((hs m).symm.trans es) (by decide)
      refine iteT ?_
      refine ⟨_, rfl, by show 1 ≤ 1000; decide, fun b hb => ⟨b, (.int n), rfl, upd_same, fun d hd hne => ⟨rfl, d, [(("given" : Str), (.int n))], upd_same, ?_, ?_, ?_⟩⟩⟩
      · rw [upd_ne hne, upd_same]
      · rw [upd_ne hne] at hd
        exact hd
      · rw [upd_ne hne] at hd
        rw [raise_heap hb]
        exact kF hn d hd
    | true =>
      refine iteF ⟨_, rfl, _, rfl, a, T.c_Desk, y.dx, _, _, rfl, ha, T.cl_Desk, T.na_Desk_begun, rfl, y.bg, _, rfl, DGet.k (k := Sum.inl n) hbg, _, rfl, ?_⟩
      rw [show valV kv (Sum.inl n) = if n ∈ G then some (.bl true) else none from hp (Sum.inl n)]
      by_cases m : n ∈ G
      · rw [if_pos m]
        refine iteF ?_
        obtain ⟨dx, dsx, dv, db, hp0, n1, n2, n3, D1, D2, D3⟩ := hS.ex
        obtain ⟨ov, hov, ond, hO⟩ := D2.ex
        have hov' := dels_sub _ _ hov
        have gg := DGet.k (k := Sum.inl n) hov'
        have z := hO (.inl n)
        have hp1 := dels_sub _ _ hp0
        refine ⟨_, rfl, a, T.c_Desk, y.dx, _, _, rfl, ha, T.cl_Desk, T.na_Desk_state, rfl, p, T.c_State, dx, _, _, rfl, hp1, T.cl_State, T.na_State_over, rfl, dv, rfl, .inl ⟨ov, .inl hov'⟩, _, rfl, _, gg, ?_⟩
        have ew : ((valV ov (Sum.inl n)).getD (.str "open")) = .str (stW (σ.ov n)) := by
          cases e : valV ov (Sum.inl n) with
          | none =>
            rw [e] at z
            rw [show σ.ov n = none from z]
            rfl
          | some v =>
            rw [e] at z
            obtain ⟨b, rfl, _, h2⟩ := z
            rw [h2]
            rfl
        rw [ew]
        exact kT m
      · rw [if_neg m]
        refine iteT ?_
        refine ⟨_, rfl, by show 1 ≤ 1000; decide, fun b hb => ⟨b, (.int n), rfl, upd_same, fun d hd hne => ⟨rfl, d, [(("given" : Str), (.int n))], upd_same, ?_, ?_, ?_⟩⟩⟩
        · rw [upd_ne hne, upd_same]
        · rw [upd_ne hne] at hd
          exact hd
        · rw [upd_ne hne] at hd
          rw [raise_heap hb]
          exact kF m d hd
end
end K16

namespace K16
open PySem L2 SI CM BK OWN MIR StX TX TL
section
variable {w : World} {K : PySem.W.Frag} {mg : Str → Option Value} {base : Heap} (T : Txt w K mg)
/-- what binds, as the law says it -/
theorem bind_none {s w : Int} {r an : Str} (e1 : an ≠ "open") : bindM r (placeM s w none) an = false := by
  unfold bindM
  rw [if_neg e1]
  have hs : placeM s w none ∈ (["free", "late"] : List Str) := by
    show (if w < s then ("free" : Str) else "late") ∈ _
    split <;> decide +kernel
  have : ∀ sp ∈ (["free", "late"] : List Str), (decide (sp = "below") || decide (sp = "above")) = false := by decide +kernel
  rw [this _ hs, Bool.and_false, Bool.and_false]
theorem bind_some {s w g : Int} {r an : Str} : bindM r (placeM s w (some g)) an = (decide (g ≠ s) && (decide (r = "after") && (decide (an = "open") || (decide (an = "skip") && decide (placeM s w (some g) ≠ "under"))))) := by
  unfold bindM
  by_cases c1 : g = s
  · have e1 : placeM s w (some g) = "own" := if_pos c1
    rw [e1, decide_eq_false (fun z : g ≠ s => z c1), Bool.false_and]
    by_cases c2 : an = "open"
    · rw [if_pos c2, decide_eq_false (by intro z; exact z rfl : ¬ (("own" : Str) ≠ "own")), Bool.and_false]
    · rw [if_neg c2, show (decide (("own" : Str) = "below") || decide (("own" : Str) = "above")) = false from by decide +kernel, Bool.and_false, Bool.and_false]
  · rw [decide_eq_true (c1 : g ≠ s), Bool.true_and]
    have e1 : placeM s w (some g) ∈ (["under", "below", "above"] : List Str) := by
      show (if g = s then ("own" : Str) else if s < w then "under" else if s < g then "below" else "above") ∈ _
      rw [if_neg c1]
      split
      · decide +kernel
      · split <;> decide +kernel
    generalize placeM s w (some g) = sp at e1
    have h2 : ∀ sp ∈ (["under", "below", "above"] : List Str), sp ≠ "own" ∧ (decide (sp = "below") || decide (sp = "above")) = decide (sp ≠ "under") := by decide +kernel
    obtain ⟨h3, h4⟩ := h2 sp e1
    by_cases c2 : an = "open"
    · rw [if_pos c2, decide_eq_true h3, decide_eq_true c2, Bool.true_or]
    · rw [if_neg c2, h4, decide_eq_false c2, Bool.false_or]
theorem ins_ex (x : Int) : ∀ M : List Int, M.Pairwise (· ≤ ·) → ∃ N : List Int, N.Perm (x :: M) ∧ N.Pairwise (· ≤ ·)
  | [], _ => ⟨[x], .refl _, List.pairwise_singleton _ _⟩
  | y :: M, h => by
    obtain ⟨h1, h2⟩ := List.pairwise_cons.mp h
    by_cases c : x ≤ y
    · exact ⟨x :: y :: M, .refl _, List.pairwise_cons.mpr ⟨fun z hz => by rcases List.mem_cons.mp hz with e | e; (· omega); (· have := h1 z e; omega), h⟩⟩
    · obtain ⟨N, p, q⟩ := ins_ex x M h2
      refine ⟨y :: N, (p.cons y).trans (List.Perm.swap x y M), List.pairwise_cons.mpr ⟨fun z hz => ?_, q⟩⟩
      rcases List.mem_cons.mp (p.mem_iff.mp hz) with e | e
      · omega
      · exact h1 z e
theorem sort_ex : ∀ L : List Int, ∃ M : List Int, M.Perm L ∧ M.Pairwise (· ≤ ·)
  | [] => ⟨[], .refl _, .nil⟩
  | x :: L => by
    obtain ⟨M, p, q⟩ := sort_ex L
    obtain ⟨N, p2, q2⟩ := ins_ex x M q
    exact ⟨N, p2.trans (p.cons x), q2⟩
/-- the fallen, in any order -/
structure FellL (σ : MIR.S) (s : Int) (U L : List Int) : Prop where
  nd : L.Nodup
  mem : ∀ t, t ∈ L ↔ Reach σ s t
  sub : ∀ t ∈ L, t ∈ U
theorem FellL.isF {σ : MIR.S} {s : Int} {U L : List Int} (h : FellL σ s U L) : IsF σ s (fal σ s) ∧ ∀ t, t ∈ fal σ s ↔ t ∈ L := by
  obtain ⟨M, p, q⟩ := sort_ex L
  obtain ⟨a, b⟩ := perm_asc p q h.nd
  have f : IsF σ s M := ⟨a, fun t => (b t).trans (h.mem t)⟩
  rw [fal_eq f]
  exact ⟨f, b⟩
theorem fal_isF {σ : MIR.S} {s : Int} {U : List Int} (un : U.Nodup) (hout : ∀ t, t ∉ U → σ.bd t = []) (hs : s ∈ U) : IsF σ s (fal σ s) ∧ ∀ t ∈ fal σ s, t ∈ U := by
  classical
  have sub : ∀ t, Reach σ s t → t ∈ U := fun t h => by
    cases h with
    | refl => exact hs
    | step r hu _ =>
      by_cases c : t ∈ U
      · exact c
      · rw [hout t c] at hu; cases hu
  have f : FellL σ s U (U.filter fun t => decide (Reach σ s t)) :=
    ⟨un.sublist List.filter_sublist, fun t => ⟨fun h => of_decide_eq_true (List.mem_filter.mp h).2, fun h => List.mem_filter.mpr ⟨sub t h, decide_eq_true h⟩⟩, fun t h => (List.mem_filter.mp h).1⟩
  exact ⟨f.isF.1, fun t h => sub t ((f.isF.1.2 t).mp h)⟩
theorem askR_met (B : Bkm) (σ : MIR.S) (kd : Str) (s : Int) (n : Str) (v : Int) (m m' : List Str) (an : Str) :
    (askR B σ kd s n v m an).1 = (askR B σ kd s n v m' an).1 ∧ (askR B σ kd s n v m an).2.word = (askR B σ kd s n v m' an).2.word ∧ (askR B σ kd s n v m an).2.val = (askR B σ kd s n v m' an).2.val ∧ (askR B σ kd s n v m an).2.fallen = (askR B σ kd s n v m' an).2.fallen ∧ (askR B σ kd s n v m an).2.met = m := by
  unfold askR
  split
  · exact ⟨rfl, rfl, rfl, rfl, rfl⟩
  split
  · exact ⟨rfl, rfl, rfl, rfl, rfl⟩
  split
  · exact ⟨rfl, rfl, rfl, rfl, rfl⟩
  split
  · exact ⟨rfl, rfl, rfl, rfl, rfl⟩
  split
  · exact ⟨rfl, rfl, rfl, rfl, rfl⟩
  · exact ⟨rfl, rfl, rfl, rfl, rfl⟩
theorem askR_word {B : Bkm} {σ : MIR.S} {kd : Str} {s : Int} {n : Str} {v : Int} {m : List Str} {an : Str} : (askR B σ kd s n v m an).2.word = "wound" ↔ an = "wound" := by
  unfold askR
  split
  · rename_i c; exact ⟨fun z => absurd z (show ("wait" : Str) ≠ "wound" from by decide +kernel), fun z => by rw [z] at c; exact absurd c (by decide +kernel)⟩
  split
  · rename_i c; exact ⟨fun _ => c, fun _ => rfl⟩
  rename_i nw
  split
  · exact ⟨fun z => absurd z (show ("abort" : Str) ≠ "wound" from by decide +kernel), fun z => absurd z nw⟩
  split
  · exact ⟨fun z => absurd z (show ("read" : Str) ≠ "wound" from by decide +kernel), fun z => absurd z nw⟩
  split
  · exact ⟨fun z => absurd z (show ("skip" : Str) ≠ "wound" from by decide +kernel), fun z => absurd z nw⟩
  · exact ⟨fun z => absurd z (show ("put" : Str) ≠ "wound" from by decide +kernel), fun z => absurd z nw⟩
theorem askR_fal {B : Bkm} {σ : MIR.S} {kd : Str} {s : Int} {n : Str} {v : Int} {m : List Str} {an : Str} (nw : an ≠ "wound") : (askR B σ kd s n v m an).2.fallen = [] ∨ (askR B σ kd s n v m an).2.fallen = fal σ s := by
  unfold askR
  rw [if_neg nw]
  split
  · exact .inl rfl
  split
  · exact .inr rfl
  split
  · exact .inl rfl
  split
  · exact .inl rfl
  · exact .inl rfl
theorem ans_write {f : Str → Str} (hf : ∀ x ∈ ENT, f x ∈ chs x) (B : Bkm) (hB : B.f = f) {sp : Str} (hs : sp ∈ SPOTS) (p : Bool) (nw : ansL B "write" sp (metM "write" sp p) ≠ "wound") :
    ansL B "write" sp (metM "write" sp p) ∈ (["put", "skip", "wait", "abort"] : List Str) := by
  have h1 : ∀ sp ∈ SPOTS, ∀ p ∈ [true, false], (match metM "write" sp p with | none => decide (MIR.fixM "write" sp ∈ (["put", "skip", "wait", "abort"] : List Str)) | some e => decide (e ∈ ENT) && (chs e).all fun a => decide (a = "wound") || decide (a ∈ (["put", "skip", "wait", "abort"] : List Str))) = true := by decide +kernel
  have h2 := h1 sp hs p (by cases p <;> simp)
  unfold ansL at nw ⊢
  cases e : metM "write" sp p with
  | none => rw [e] at h2; exact of_decide_eq_true h2
  | some y =>
    rw [e] at h2 nw
    have h3 : (decide (y ∈ ENT) && (chs y).all fun a => decide (a = "wound") || decide (a ∈ (["put", "skip", "wait", "abort"] : List Str))) = true := h2
    rw [Bool.and_eq_true] at h3
    have h4 := List.all_eq_true.mp h3.2 (f y) (hf y (of_decide_eq_true h3.1))
    show B.f y ∈ _
    have nw : B.f y ≠ "wound" := nw
    rw [hB] at nw ⊢
    rw [decide_eq_false nw, Bool.false_or] at h4
    exact of_decide_eq_true h4
theorem reqM_one {B : Bkm} {σ : MIR.S} {kd : Str} {s : Int} {n : Str} {v : Int} (h : (askM B σ kd s n v).2.word ≠ "wound") : reqM B σ kd s n v = askM B σ kd s n v := if_pos h
theorem reqM_two {B : Bkm} {σ : MIR.S} {kd : Str} {s : Int} {n : Str} {v : Int} (h : (askM B σ kd s n v).2.word = "wound") (hs : s ∉ fal σ (hInt (σ.it n))) :
    reqM B σ kd s n v = ((askM B (fallS σ (fal σ (hInt (σ.it n)))) kd s n v).1, ⟨(askM B (fallS σ (fal σ (hInt (σ.it n)))) kd s n v).2.word, metL (entOf σ kd s n) ++ (askM B (fallS σ (fal σ (hInt (σ.it n)))) kd s n v).2.met, (askM B (fallS σ (fal σ (hInt (σ.it n)))) kd s n v).2.val, asc (fal σ (hInt (σ.it n)) ++ (askM B (fallS σ (fal σ (hInt (σ.it n)))) kd s n v).2.fallen)⟩) := by
  have w0 := ask_wound h
  unfold reqM
  rw [w0]
  exact (if_neg (fun z => z rfl)).trans (if_neg hs)
theorem reqM_self {B : Bkm} {σ : MIR.S} {kd : Str} {s : Int} {n : Str} {v : Int} (h : (askM B σ kd s n v).2.word = "wound") (hs : s ∈ fal σ (hInt (σ.it n))) :
    reqM B σ kd s n v = (fallS σ (fal σ (hInt (σ.it n))), ⟨"abort", metL (entOf σ kd s n), .non, fal σ (hInt (σ.it n))⟩) := by
  have w0 := ask_wound h
  unfold reqM
  rw [w0]
  exact (if_neg (fun z => z rfl)).trans (if_pos hs)
/-- the entries that an outcome tells, and how many are waited for -/
def GdO (o : Out) : Prop := (∀ e ∈ o.met, e ∈ ENT) ∧ ∀ l, o.val = .tup l → l.length ≤ 100
theorem asc_len {L : List Int} (nd : L.Nodup) : (asc L).length = L.length := by
  obtain ⟨M, p, q⟩ := sort_ex L
  rw [asc_eq (perm_asc p q nd)]
  exact p.length_eq
theorem ask_met_eq (B : Bkm) (σ : MIR.S) (kd : Str) (s : Int) (n : Str) (v : Int) : (askM B σ kd s n v).2.met = metL (entOf σ kd s n) := (askR_met B σ kd s n v (metL (entOf σ kd s n)) [] (ansL B kd (spotOf σ s n) (entOf σ kd s n))).2.2.2.2
theorem ask_ent (B : Bkm) (σ : MIR.S) {kd : Str} (hk : kd ∈ KINDS) (s : Int) (n : Str) : ∀ e ∈ metL (entOf σ kd s n), e ∈ ENT := fun e he => by
  cases h : entOf σ kd s n with
  | none => rw [h] at he; cases he
  | some y => rw [h] at he; rw [List.mem_singleton.mp he]; exact ent_ENT hk (place_spots _ _ _) h
theorem ask_val (B : Bkm) (σ : MIR.S) (kd : Str) (s : Int) (n : Str) (v : Int) : ∀ l, (askM B σ kd s n v).2.val = .tup l → l.length ≤ 1 := fun l h => by
  rw [ask_R] at h
  have hv : ∀ a, valM (σ.it n) s a ≠ .tup l := fun a z => by
    unfold valM at z
    by_cases c1 : a = "open"
    · rw [if_pos c1] at z
      cases e : (σ.it n).opn with
      | none => rw [e] at z; cases z
      | some hv => rw [e] at z; cases z
    · rw [if_neg c1] at z
      by_cases c2 : a = "old"
      · rw [if_pos c2] at z; cases z
      · rw [if_neg c2] at z; cases z
  unfold askR at h
  split at h
  · cases h; exact Nat.le_refl _
  split at h
  · cases h
  split at h
  · cases h
  split at h
  · exact absurd h (hv _)
  split at h
  · cases h
  · cases h
theorem req_good (B : Bkm) (σ : MIR.S) {kd : Str} (hk : kd ∈ KINDS) (s : Int) (n : Str) (v : Int) : GdO (reqM B σ kd s n v).2 := by
  by_cases h : (askM B σ kd s n v).2.word = "wound"
  · by_cases hs : s ∈ fal σ (hInt (σ.it n))
    · rw [reqM_self h hs]
      exact ⟨ask_ent B σ hk s n, fun l z => (by cases z)⟩
    · rw [reqM_two h hs]
      refine ⟨fun e he => ?_, fun l z => Nat.le_trans (ask_val B _ kd s n v l z) (by decide)⟩
      rcases List.mem_append.mp he with g | g
      · exact ask_ent B σ hk s n e g
      · rw [ask_met_eq] at g; exact ask_ent B _ hk s n e g
  · rw [reqM_one h]
    exact ⟨fun e he => ask_ent B σ hk s n e (by rw [← ask_met_eq B σ kd s n v]; exact he), fun l z => Nat.le_trans (ask_val B σ kd s n v l z) (by decide)⟩
end
end K16

namespace K16
open PySem L2 SI CM BK OWN MIR StX TX TL
section
variable {w : World} {K : PySem.W.Frag} {mg : Str → Option Value} {base : Heap} (T : Txt w K mg)
theorem fix_in (kd sp : Str) : MIR.fixM kd sp = "put" ∨ MIR.fixM kd sp = "last" ∨ MIR.fixM kd sp = "open" := by
  unfold MIR.fixM
  split
  · exact .inl rfl
  · split
    · exact .inr (.inl rfl)
    · exact .inr (.inr rfl)
/-- who is aborted or wounds has met an entry -/
theorem ask_met_ne {B : Bkm} {σ : MIR.S} {kd : Str} {s : Int} {n : Str} {v : Int} (h : (askM B σ kd s n v).2.word = "abort" ∨ (askM B σ kd s n v).2.word = "wound") : (askM B σ kd s n v).2.met ≠ [] := by
  rw [ask_R] at h ⊢
  cases e : entOf σ kd s n with
  | some x =>
    have : (askR B σ kd s n v (metL (some x)) (ansL B kd (spotOf σ s n) (some x))).2.met = [x] := by
      unfold askR
      repeat' split
      all_goals rfl
    rw [this]
    exact List.cons_ne_nil _ _
  | none =>
    exfalso
    rw [e] at h
    have hz : ∀ a ∈ (["put", "last", "open"] : List Str), a ≠ "wait" ∧ a ≠ "wound" ∧ a ≠ "abort" ∧ a ≠ "old" ∧ a ≠ "skip" := by decide +kernel
    have hw : ("read" : Str) ≠ "abort" ∧ ("read" : Str) ≠ "wound" ∧ ("put" : Str) ≠ "abort" ∧ ("put" : Str) ≠ "wound" := by decide +kernel
    obtain ⟨h1, h2, h3, h4⟩ := hw
    have hm : ansL B kd (spotOf σ s n) none ∈ (["put", "last", "open"] : List Str) := by
      show MIR.fixM kd (spotOf σ s n) ∈ _
      rcases fix_in kd (spotOf σ s n) with z | z | z <;> rw [z] <;> simp
    obtain ⟨z1, z2, z3, z4, z5⟩ := hz _ hm
    generalize ansL B kd (spotOf σ s n) none = an at h z1 z2 z3 z4 z5
    unfold askR at h
    rw [if_neg z1, if_neg z2, if_neg (fun q => q.elim z3 fun q => z4 q.1)] at h
    by_cases c : kd = "read"
    · rw [if_pos c] at h
      exact h.elim h1 h2
    · rw [if_neg c, if_neg z5] at h
      exact h.elim h3 h4
theorem req_met_ne {B : Bkm} {σ : MIR.S} {kd : Str} {s : Int} {n : Str} {v : Int} (h : (reqM B σ kd s n v).2.word = "abort") : (reqM B σ kd s n v).2.met ≠ [] := by
  by_cases c : (askM B σ kd s n v).2.word = "wound"
  · have m := ask_met_ne (B := B) (σ := σ) (kd := kd) (s := s) (n := n) (v := v) (.inr c)
    unfold reqM
    rw [if_neg (fun z => z c)]
    by_cases d : s ∈ (askM B σ kd s n v).2.fallen
    · rw [if_pos d]; exact m
    · rw [if_neg d]
      show (askM B σ kd s n v).2.met ++ _ ≠ []
      intro z
      exact m (List.append_eq_nil_iff.mp z).1
  · unfold reqM at h ⊢
    rw [if_pos c] at h ⊢
    exact ask_met_ne (.inl h)
/-- the kind of a step, as it is written -/
def kindX : Stp → Str
  | .req k _ _ => k
  | .com _ => "commit"
  | .abo _ => "abort"
theorem take_met_ne {B : Bkm} {σ : MIR.S} {x : Stp} {v : Int} (h : (takeM B σ x v).2.word = "abort") (n : kindX x ≠ "abort") : (takeM B σ x v).2.met ≠ [] := by
  have hw : ("void" : Str) ≠ "abort" ∧ ("wait" : Str) ≠ "abort" ∧ ("commit" : Str) ≠ "abort" := by decide +kernel
  unfold takeM at h ⊢
  by_cases c : (σ.ov x.who).isSome = true
  · rw [if_pos c] at h; exact absurd h hw.1
  · rw [if_neg c] at h ⊢
    cases x with
    | com s =>
      dsimp only at h
      split at h
      · exact absurd h hw.2.1
      · exact absurd h hw.2.2
    | abo s => exact absurd rfl n
    | req k s nm => exact req_met_ne h
theorem take_met_ent {B : Bkm} {σ : MIR.S} {x : Stp} {v : Int} (hk : ∀ k s n, x = .req k s n → k ∈ KINDS) : ∀ e ∈ (takeM B σ x v).2.met, e ∈ ENT := by
  unfold takeM
  by_cases c : (σ.ov x.who).isSome = true
  · rw [if_pos c]; intro e he; cases he
  · rw [if_neg c]
    cases x with
    | com s =>
      dsimp only
      split
      · intro e he; cases he
      · intro e he; cases he
    | abo s => intro e he; cases he
    | req k s nm => exact (req_good B σ (hk k s nm rfl) s nm v).1
theorem ent_short : ∀ e ∈ ENT, e.length ≤ 900 := by decide +kernel
theorem eb_wait {B : Bkm} {σ : MIR.S} {kd : Str} {s : Int} {n : Str} {v : Int} (h : (askM B σ kd s n v).2.word = "wait") : ∃ l, (askM B σ kd s n v).2.val = .tup l := by
  rw [ask_R] at h ⊢
  generalize ansL B kd (spotOf σ s n) (entOf σ kd s n) = an at h ⊢
  have hw : ("wound" : Str) ≠ "wait" ∧ ("abort" : Str) ≠ "wait" ∧ ("read" : Str) ≠ "wait" ∧ ("skip" : Str) ≠ "wait" ∧ ("put" : Str) ≠ "wait" := by decide +kernel
  obtain ⟨h1, h2, h3, h4, h5⟩ := hw
  unfold askR at h ⊢
  by_cases c : an = "wait"
  · rw [if_pos c]; exact ⟨_, rfl⟩
  · rw [if_neg c] at h
    exfalso
    by_cases c2 : an = "wound"
    · rw [if_pos c2] at h; exact h1 h
    · rw [if_neg c2] at h
      by_cases c3 : an = "abort" ∨ (an = "old" ∧ oldM (σ.it n) s = [])
      · rw [if_pos c3] at h; exact h2 h
      · rw [if_neg c3] at h
        by_cases c4 : kd = "read"
        · rw [if_pos c4] at h; exact h3 h
        · rw [if_neg c4] at h
          by_cases c5 : an = "skip"
          · rw [if_pos c5] at h; exact h4 h
          · rw [if_neg c5] at h; exact h5 h
theorem eb_twait {B : Bkm} {σ : MIR.S} {x : Stp} {v : Int} (h : (takeM B σ x v).2.word = "wait") : ∃ l, (takeM B σ x v).2.val = .tup l := by
  have hw : ("void" : Str) ≠ "wait" ∧ ("abort" : Str) ≠ "wait" ∧ ("commit" : Str) ≠ "wait" := by decide +kernel
  obtain ⟨h1, h2, h3⟩ := hw
  unfold takeM at h ⊢
  by_cases c : (σ.ov x.who).isSome = true
  · rw [if_pos c] at h; exact absurd h h1
  · rw [if_neg c] at h ⊢
    cases x with
    | com s =>
      by_cases c2 : waitsOf σ s ≠ []
      · dsimp only; rw [if_pos c2]; exact ⟨_, rfl⟩
      · dsimp only at h; rw [if_neg c2] at h; exact absurd h h3
    | abo s => exact absurd h h2
    | req k s nm =>
      show ∃ l, (reqM B σ k s nm v).2.val = .tup l
      have h : (reqM B σ k s nm v).2.word = "wait" := h
      unfold reqM at h ⊢
      by_cases c2 : (askM B σ k s nm v).2.word ≠ "wound"
      · rw [if_pos c2] at h ⊢; exact eb_wait h
      · rw [if_neg c2] at h ⊢
        by_cases c3 : s ∈ (askM B σ k s nm v).2.fallen
        · rw [if_pos c3] at h; exact absurd h h2
        · rw [if_neg c3] at h ⊢; exact eb_wait h
end
end K16

namespace K16
open PySem L2 SI CM BK OWN MIR StX TX TL
section
variable {w : World} {K : PySem.W.Frag} {mg : Str → Option Value} {base : Heap} (T : Txt w K mg)
/-- what leads to an error -/
def stopB (x : Stp) (o : Out) : Bool := decide (o.word = "void") || (decide (o.word = "wait") || (decide (o.word = "abort") && !decide (kindX x = "abort")))
/-- a desk's ask: the step is taken; its outcome, or an error -/
def spDAskX (CD CB CS CI CF CM CO : Addr) : Sp := fun vs H Q E => ∃ (U : List Int) (N : List Str) (B : Bkm) (ex : List Addr) (a : Addr) (y : DkA) (σ : MIR.S) (G : List Int) (g : Int) (st : Addr) (v : V) (z : Int) (x : Stp), vs = [.ref a, .ref st, v] ∧
  DkAt CD CB CS CI U N B ex H a y σ G g [] ∧ Locked H ex y.bg ∧ (∀ x ∈ ENT, B.f x ∈ chs x) ∧ 1 ≤ B.keep ∧ B.keep ≤ 20 ∧ StpAt H st x ∧ StpOk U N v z x ∧ U.length ≤ 400 ∧ N.length ≤ 400 ∧ NumOk x.who ∧ (∀ k s n, x = .req k s n → k ∈ KINDS) ∧
  (stopB x (takeM B σ x z).2 = false → ∀ (H' : Hp) (q : Addr), (∀ b o, b ≠ a → H b = some o → H' b = some o) → DkAt CD CB CS CI U N B ex H' a y (takeM B σ x z).1 G g [] → OutAt H' q (takeM B σ x z).2 → Q (.ref q) H') ∧
  (stopB x (takeM B σ x z).2 = true → ∀ (H' : Hp) (d C : Addr) (fs : List (Str × V)), (∀ b o, b ≠ a → H b = some o → H' b = some o) → DkAt CD CB CS CI U N B ex H' a y (takeM B σ x z).1 G g [] → H' d = some (.xd fs) →
    ((takeM B σ x z).2.word = "void" ∧ C = CF ∧ fs = ([(("stamp" : Str), V.int x.who)] : List (Str × V)) ∨
     (takeM B σ x z).2.word = "wait" ∧ C = CM ∧ (∃ h l, fs = ([(("holders" : Str), V.ref h), (("stamp" : Str), V.int x.who)] : List (Str × V)) ∧ (takeM B σ x z).2.val = .tup l ∧ H' h = some (.tup (l.map V.int))) ∨
     (takeM B σ x z).2.word = "abort" ∧ C = CO ∧ fs = ([(("stamp" : Str), V.int x.who)] : List (Str × V))) → E (.ref C) (some d) H')
theorem ok_Desk_askX : FnOk PP w K mg base (L2.CX PP w) 13 T.f_Desk_ask T.d_Desk_ask ["self", "step", "value"] (spDAskX T.c_Desk T.c_Book T.c_State T.c_Item T.c_Finished T.c_MustWait T.c_BrokenOff) := by
  refine T.F_Desk_ask.okX sc_Desk_ask (fun vs H Q E h => ?_) (fun cdv A outer s H vs Q E hr h => ?_)
  · obtain ⟨U, N, B, ex, a, y, σ, G, g, st, v, z, x, rfl, _⟩ := h
    rfl
  · obtain ⟨U, N, B, ex, a, y, σ, G, g, st, v, z, x, rfl, D, lk, hf, k1, k20, hst, hx, hU, hN, hn, hkd, kT, kF⟩ := h
    refine ⟨_, pss_cons (ps_expr (pe_meth0 (pv 0) T.cl_Desk T.m_Desk_settle (ok_Desk_settle T) (hr.mono (by decide)) (b_Desk_settle T) .nil pass0))
 (pss_cons (ps_set (i := 3) sc_Desk_ask.nd rfl (.inl rfl) (pe_meth (pv 0) T.cl_Desk T.m_Desk_take (ok_Desk_take T) (hr.mono (by decide)) (b_Desk_take T) .nil pass0 (pa_cons (pv 1) (pa_cons (pv 2) pa_nil))))
 (pss_cons (ps_asg (pv 3) (pg_tup rfl (pgs_cons (pg_name (i := 4) sc_Desk_ask.nd rfl (.inl rfl)) (pgs_cons (pg_name (i := 5) sc_Desk_ask.nd rfl (.inl rfl)) (pgs_cons (pg_name (i := 6) sc_Desk_ask.nd rfl (.inl rfl)) (pgs_cons (pg_name (i := 7) sc_Desk_ask.nd rfl (.inl rfl)) pgs_nil))))))
 (pss_cons (ps_if (pt_cmpR op_eq (pv 4) pe_str (nomark _))
 (pss_one (ps_raise rfl (takes_of rfl rfl rfl rfl) (pmk_oex T.oex_Finished T.i_Finished_init T.t_Finished_init (ok_Finished T) (hr.mono (by decide)) (b_Finished_init T) .nil pass0 (by rfl) T.g_Finished (pa_cons (pe_ix ix_tup (pv 1) pe_int (fun _ _ => rfl)) pa_nil))))
 pss_nil)
 (pss_cons (ps_if (pt_cmpR op_eq (pv 4) pe_str (nomark _))
 (pss_one (ps_raise rfl (takes_of rfl rfl rfl rfl) (pmk_oex T.oex_MustWait T.i_MustWait_init T.t_MustWait_init (ok_MustWait T) (hr.mono (by decide)) (b_MustWait_init T) .nil pass0 (by rfl) T.g_MustWait (pa_cons (pe_ix ix_tup (pv 1) pe_int (fun _ _ => rfl)) (pa_cons (pv 6) pa_nil)))))
 pss_nil)
 (pss_cons (ps_if (PW.pt (pw_and (pt_cmpR op_eq (pv 4) pe_str (nomark _)) (pw_and1 (pt_cmpR op_ne (pe_ix ix_tup (pv 1) pe_int (fun _ _ => rfl)) pe_str (nomark _)))))
 (pss_one (RFM.ps_raiseF rfl rfl rfl (takes_of rfl rfl rfl rfl) (RFM.pmk6_oex T.oex_BrokenOff T.i_BrokenOff_init T.t_BrokenOff_init (ok_BrokenOff T) (hr.mono (by decide)) (b_BrokenOff_init T) .nil pass0 (by rfl) T.g_BrokenOff (pa_cons (pe_ix ix_tup (pv 1) pe_int (fun _ _ => rfl)) pa_nil)) (RFM.pmk6_oex T.oex_TooLate T.i_TooLate_init T.t_TooLate_init (ok_TooLate T) (hr.mono (by decide)) (b_TooLate_init T) .nil pass0 (by rfl) T.g_TooLate (pa_cons (pe_ix ix_tup (pv 5) (pe_un un_neg pe_int) (fun _ _ => rfl)) pa_nil))))
 pss_nil)
 (pss_one (ps_ret (pv 3)))))))), ?_⟩
    obtain ⟨p, ha, hS⟩ := D.st
    refine ⟨_, rfl, a, y.dx, _, rfl, ha, (by kernel_rfl), U, N, B, ex, a, y, σ, G, g, rfl, D, ?_⟩
    refine ⟨_, rfl, a, y.dx, _, rfl, ha, (by kernel_rfl), _, rfl, _, rfl, U, N, B, ex, a, y, σ, G, g, [], st, v, z, x, rfl, D, lk, hf, k1, k20, hst, hx, hU, hN, fun H1 q km D1 hO so => ?_⟩
    have hO0 := hO
    obtain ⟨m, vv, fl, h1, h2, h3, h4⟩ := hO
    have hst1 : StpAt H1 st x := by
      obtain ⟨l, hl⟩ := stp_tup hst
      have n : st ≠ a := fun e => by rw [e, ha] at hl; cases hl
      cases x with
      | req k s n' => exact km _ _ n hst
      | com s => exact km _ _ n hst
      | abo s => exact km _ _ n hst
    have s0 : ∃ r2, H1 st = some (.tup (.str (kindX x) :: .int x.who :: r2)) := by
      cases x with
      | req k s n' => exact ⟨_, hst1⟩
      | com s => exact ⟨_, hst1⟩
      | abo s => exact ⟨_, hst1⟩
    obtain ⟨r2, hs1⟩ := s0
    have i0 : ∀ (u : V) (r : List V), atI (u :: r) 0 = some u := fun u r => atI_nat (by rfl)
    have i1 : ∀ (u u2 : V) (r : List V), atI (u :: u2 :: r) 1 = some u2 := fun u u2 r => atI_nat (by rfl)
    have kn : ∀ {H' : Hp}, Same H1 H' → (∀ b o, b ≠ a → H b = some o → H' b = some o) ∧ DkAt T.c_Desk T.c_Book T.c_State T.c_Item U N B ex H' a y (takeM B σ x z).1 G g [] := fun {H'} s => ⟨fun b o n w => s _ _ (km b o n w), D1.same s⟩
    refine ⟨_, rfl, q, _, rfl, SqT.of h1, rfl, _, _, rfl, _, _, rfl, _, _, rfl, _, _, rfl, rfl, _, rfl, rfl, _, rfl, ?_⟩
    rw [ds]
    by_cases c1 : (takeM B σ x z).2.word = "void"
    · rw [decide_eq_true c1]
      have sb : stopB x (takeM B σ x z).2 = true := by unfold stopB; rw [decide_eq_true c1]; rfl
      refine iteT ⟨_, rfl, st, _, _, .int x.who, rfl, rfl, SqT.of hs1, i1 _ _ _, rzn hn fun d hd => ?_⟩
      obtain ⟨g1, g2⟩ := kn (same_new (Same.refl H1) hd)
      exact kF sb _ d _ _ g1 g2 upd_same (.inl ⟨c1, rfl, rfl⟩)
    rw [decide_eq_false c1]
    refine iteF ⟨_, rfl, rfl, _, rfl, ?_⟩
    rw [ds]
    by_cases c2 : (takeM B σ x z).2.word = "wait"
    · rw [decide_eq_true c2]
      have sb : stopB x (takeM B σ x z).2 = true := by unfold stopB; rw [decide_eq_true c2, Bool.true_or, Bool.or_true]
      obtain ⟨l, hl⟩ := eb_twait c2
      rw [hl] at h3
      obtain ⟨hq, rfl, hh⟩ := h3
      refine iteT ⟨_, rfl, st, _, _, .int x.who, rfl, rfl, SqT.of hs1, i1 _ _ _, _, rfl, rzw hn fun d hd => ?_⟩
      obtain ⟨g1, g2⟩ := kn (same_new (Same.refl H1) hd)
      exact kF sb _ d _ _ g1 g2 upd_same (.inr (.inl ⟨c2, rfl, hq, l, rfl, hl, same_new (Same.refl H1) hd _ _ hh⟩))
    rw [decide_eq_false c2]
    refine iteF ⟨_, rfl, rfl, _, rfl, ?_⟩
    rw [ds]
    by_cases c3 : (takeM B σ x z).2.word = "abort"
    · rw [decide_eq_true c3]
      refine iteT ⟨_, rfl, st, _, _, .str (kindX x), rfl, rfl, SqT.of hs1, i0 _ _, rfl, _, rfl, ?_⟩
      rw [ds]
      by_cases c4 : kindX x = "abort"
      · rw [decide_eq_true c4]
        have sb : stopB x (takeM B σ x z).2 = false := by unfold stopB; rw [decide_eq_false c1, decide_eq_false c2, decide_eq_true c4]; simp
        exact iteF ⟨_, rfl, kT sb H1 q km D1 hO0⟩
      · rw [decide_eq_false c4]
        have sb : stopB x (takeM B σ x z).2 = true := by unfold stopB; rw [decide_eq_true c3, decide_eq_false c4]; simp
        have mn := take_met_ne c3 c4
        have me := take_met_ent (B := B) (σ := σ) (v := z) hkd
        obtain ⟨ms, e, em⟩ : ∃ ms e, (takeM B σ x z).2.met = ms ++ [e] := ⟨_, _, (List.dropLast_concat_getLast mn).symm⟩
        have he : e.length ≤ 900 := ent_short e (me e (by rw [em]; simp))
        refine iteT ⟨_, rfl, st, _, _, .int x.who, rfl, rfl, SqT.of hs1, i1 _ _ _, ?_⟩
        refine ⟨by show 1 ≤ 1000; decide, fun a' ha' => ⟨a', x.who, rfl, upd_same, hn, fun d hd' hne => ⟨rfl, d, [(("stamp" : Str), V.int x.who)], upd_same, ?_, ?_, ?_⟩⟩⟩
        · rw [upd_ne hne, upd_same]
        · rw [upd_ne hne] at hd'
          exact hd'
        rw [upd_ne hne] at hd'
        have hd : H1 d = none := hd'
        rw [raise_heap ha']
        have y1 := same_new (o := .xd [(("stamp" : Str), V.int x.who)]) (Same.refl H1) hd
        refine ⟨_, rfl, _, rfl, m, _, _, .str e, rfl, rfl, SqT.of (y1 _ _ h2), by rw [em, List.map_append]; exact atI_last _ _, ?_⟩
        refine rzs (E := fun _ _ H2 => E (.ref T.c_BrokenOff) (some d) H2) he fun d2 hd2 => ?_
        have y2 := same_new (o := .xd [(("entry" : Str), V.str e)]) y1 hd2
        obtain ⟨g1, g2⟩ := kn y2
        exact kF sb _ d _ _ g1 g2 (kp hd2 upd_same) (.inr (.inr ⟨c3, rfl, rfl⟩))
    · rw [decide_eq_false c3]
      have sb : stopB x (takeM B σ x z).2 = false := by unfold stopB; rw [decide_eq_false c1, decide_eq_false c2, decide_eq_false c3]; rfl
      exact iteF (iteF ⟨_, rfl, kT sb H1 q km D1 hO0⟩)
end
end K16

namespace K16
open PySem L2 SI CM BK OWN MIR StX TX TL
section
variable {w : World} {K : PySem.W.Frag} {mg : Str → Option Value} {base : Heap} (T : Txt w K mg)
/-! values renamed -/
def mapI (φ : Int → Int) (i : MIR.It) : MIR.It := ⟨i.kept.map fun p => (p.1, φ p.2), i.opn.map fun p => (p.1, φ p.2), i.rd⟩
def mapS (φ : Int → Int) (σ : MIR.S) : MIR.S := ⟨fun n => mapI φ (σ.it n), σ.ov, σ.bd⟩
def mapV (φ : Int → Int) : OV → OV
  | .int v => .int (φ v)
  | o => o
def mapO (φ : Int → Int) (o : Out) : Out := ⟨o.word, o.met, mapV φ o.val, o.fallen⟩
section
variable {φ : Int → Int} (h0 : φ 0 = 0)
include h0
theorem lastV_map (i : MIR.It) : lastV (mapI φ i) = ((lastV i).1, φ (lastV i).2) := by
  unfold lastV mapI
  show (i.kept.map fun p => (p.1, φ p.2)).getLastD (0, 0) = _
  rw [List.getLastD_eq_getLast?, List.getLastD_eq_getLast?, List.getLast?_map]
  cases i.kept.getLast? with
  | none => show ((0, 0) : Int × Int) = (0, φ 0); rw [h0]
  | some p => rfl
theorem hOf_map (i : MIR.It) : hOf (mapI φ i) = hOf i := by
  unfold hOf mapI
  cases i.opn <;> rfl
theorem hInt_map (i : MIR.It) : hInt (mapI φ i) = hInt i := by
  unfold hInt mapI
  cases i.opn <;> rfl
theorem oldM_map (i : MIR.It) (s : Int) : oldM (mapI φ i) s = (oldM i s).map φ := by
  unfold oldM mapI
  show ((i.kept.map fun p => (p.1, φ p.2)).filter fun p => decide (p.1 < s)).map (·.2) = _
  rw [List.filter_map, List.map_map, List.map_map]
  rfl
theorem valM_map (i : MIR.It) (s : Int) (a : Str) : valM (mapI φ i) s a = mapV φ (valM i s a) := by
  unfold valM
  by_cases c1 : a = "open"
  · rw [if_pos c1, if_pos c1]
    unfold mapI
    cases i.opn <;> rfl
  · rw [if_neg c1, if_neg c1]
    by_cases c2 : a = "old"
    · rw [if_pos c2, if_pos c2, oldM_map h0]
      show OV.int (((oldM i s).map φ).getLastD 0) = .int (φ ((oldM i s).getLastD 0))
      rw [List.getLastD_eq_getLast?, List.getLastD_eq_getLast?, List.getLast?_map]
      cases (oldM i s).getLast? with
      | none => show OV.int 0 = .int (φ 0); rw [h0]
      | some p => rfl
    · rw [if_neg c2, if_neg c2, lastV_map h0]; rfl
theorem relI_map (L : List Int) (i : MIR.It) : relI L (mapI φ i) = mapI φ (relI L i) := by
  unfold relI
  cases e : i.opn with
  | none => unfold mapI; rw [e]; rfl
  | some p =>
    have e2 : (mapI φ i).opn = some (p.1, φ p.2) := by unfold mapI; rw [e]; rfl
    rw [e2]
    show (if p.1 ∈ L then { mapI φ i with opn := none } else mapI φ i) = mapI φ (if p.1 ∈ L then { i with opn := none } else i)
    by_cases c : p.1 ∈ L
    · rw [if_pos c, if_pos c]; rfl
    · rw [if_neg c, if_neg c]
theorem setI_map (s : Int) (k : Nat) (i : MIR.It) : setI s k (mapI φ i) = mapI φ (setI s k i) := by
  unfold setI
  cases e : i.opn with
  | none => unfold mapI; rw [e]; rfl
  | some p =>
    have e2 : (mapI φ i).opn = some (p.1, φ p.2) := by unfold mapI; rw [e]; rfl
    rw [e2]
    show (if p.1 = s then { mapI φ i with kept := lastN k ((mapI φ i).kept ++ [(s, φ p.2)]), opn := none } else mapI φ i) = mapI φ (if p.1 = s then { i with kept := lastN k (i.kept ++ [(s, p.2)]), opn := none } else i)
    by_cases c : p.1 = s
    · rw [if_pos c, if_pos c]
      unfold mapI
      show MIR.It.mk _ _ _ = MIR.It.mk _ _ _
      congr 1
      show lastN k ((i.kept.map fun p => (p.1, φ p.2)) ++ [(s, φ p.2)]) = (lastN k (i.kept ++ [(s, p.2)])).map fun p => (p.1, φ p.2)
      rw [← map_lastN, List.map_append]; rfl
    · rw [if_neg c, if_neg c]
theorem reach_map {σ : MIR.S} {s t : Int} : Reach (mapS φ σ) s t ↔ Reach σ s t := by
  constructor
  · intro h
    induction h with
    | refl => exact .refl
    | step _ hu ho ih => exact .step ih hu ho
  · intro h
    induction h with
    | refl => exact .refl
    | step _ hu ho ih => exact .step ih hu ho
theorem isF_map {σ : MIR.S} {s : Int} {L : List Int} : IsF (mapS φ σ) s L ↔ IsF σ s L :=
  ⟨fun h => ⟨h.1, fun t => (h.2 t).trans (reach_map h0)⟩, fun h => ⟨h.1, fun t => (h.2 t).trans (reach_map h0).symm⟩⟩
theorem fal_map (σ : MIR.S) (s : Int) : fal (mapS φ σ) s = fal σ s := by
  by_cases h : ∃ L, IsF σ s L
  · obtain ⟨L, hL⟩ := h
    rw [fal_eq hL, fal_eq ((isF_map h0).mpr hL)]
  · have h' : ¬ ∃ L, IsF (mapS φ σ) s L := fun ⟨L, hL⟩ => h ⟨L, (isF_map h0).mp hL⟩
    unfold fal
    rw [dif_neg h, dif_neg h']
theorem fallS_map (σ : MIR.S) (L : List Int) : fallS (mapS φ σ) L = mapS φ (fallS σ L) := by
  unfold fallS mapS
  show MIR.S.mk _ _ _ = MIR.S.mk _ _ _
  congr 1
  funext n
  exact relI_map h0 L (σ.it n)
theorem commS_map (σ : MIR.S) (s : Int) (k : Nat) : commS (mapS φ σ) s k = mapS φ (commS σ s k) := by
  unfold commS mapS
  show MIR.S.mk _ _ _ = MIR.S.mk _ _ _
  congr 1
  funext n
  exact setI_map h0 s k (σ.it n)
theorem bondS_map (σ : MIR.S) (s h : Int) : bondS (mapS φ σ) s h = mapS φ (bondS σ s h) := by
  unfold bondS
  show (if h ∈ σ.bd s then mapS φ σ else _) = _
  by_cases c : h ∈ σ.bd s
  · rw [if_pos c, if_pos c]
  · rw [if_neg c, if_neg c]; rfl
theorem itS_map (σ : MIR.S) (n : Str) (i : MIR.It) : itS (mapS φ σ) n (mapI φ i) = mapS φ (itS σ n i) := by
  unfold itS mapS
  show MIR.S.mk _ _ _ = MIR.S.mk _ _ _
  congr 1
  funext m
  show (if m = n then mapI φ i else mapI φ (σ.it m)) = mapI φ (if m = n then i else σ.it m)
  by_cases c : m = n
  · rw [if_pos c, if_pos c]
  · rw [if_neg c, if_neg c]
theorem readS_map (σ : MIR.S) (n : Str) (s : Int) : readS (mapS φ σ) n s = mapS φ (readS σ n s) := by
  unfold readS
  show (if s ≤ (σ.it n).rd then mapS φ σ else _) = _
  by_cases c : s ≤ (σ.it n).rd
  · rw [if_pos c, if_pos c]
  · rw [if_neg c, if_neg c]
    exact itS_map h0 σ n { σ.it n with rd := s }
theorem askR_map (B : Bkm) (σ : MIR.S) (kd : Str) (s : Int) (n : Str) (v : Int) (m : List Str) (an : Str) :
    askR B (mapS φ σ) kd s n (φ v) m an = (mapS φ (askR B σ kd s n v m an).1, mapO φ (askR B σ kd s n v m an).2) := by
  have e1 : (mapS φ σ).it n = mapI φ (σ.it n) := rfl
  have e2 : spotOf (mapS φ σ) s n = spotOf σ s n := by
    unfold spotOf
    rw [e1, lastV_map h0, hOf_map h0]
  have e3 : (oldM (mapI φ (σ.it n)) s = []) = (oldM (σ.it n) s = []) := by rw [oldM_map h0, List.map_eq_nil_iff]
  have e4 : (if bindM B.ends (spotOf σ s n) an = true then bondS (mapS φ σ) s (hInt (σ.it n)) else mapS φ σ) = mapS φ (if bindM B.ends (spotOf σ s n) an = true then bondS σ s (hInt (σ.it n)) else σ) := by
    by_cases c : bindM B.ends (spotOf σ s n) an = true
    · rw [if_pos c, if_pos c, bondS_map h0]
    · rw [if_neg c, if_neg c]
  unfold askR
  rw [e1, e2, hInt_map h0, valM_map h0, fal_map h0, fal_map h0, fallS_map h0, fallS_map h0, e4, readS_map h0]
  simp only [e3]
  by_cases c1 : an = "wait"
  · rw [if_pos c1, if_pos c1]; rfl
  rw [if_neg c1, if_neg c1]
  by_cases c2 : an = "wound"
  · rw [if_pos c2, if_pos c2]; rfl
  rw [if_neg c2, if_neg c2]
  by_cases c3 : an = "abort" ∨ (an = "old" ∧ oldM (σ.it n) s = [])
  · rw [if_pos c3, if_pos c3]; rfl
  rw [if_neg c3, if_neg c3]
  by_cases c4 : kd = "read"
  · rw [if_pos c4, if_pos c4]; rfl
  rw [if_neg c4, if_neg c4]
  by_cases c5 : an = "skip"
  · rw [if_pos c5, if_pos c5]; rfl
  rw [if_neg c5, if_neg c5]
  refine Prod.ext ?_ rfl
  exact itS_map h0 _ n { σ.it n with opn := some (s, v) }
theorem askM_map (B : Bkm) (σ : MIR.S) (kd : Str) (s : Int) (n : Str) (v : Int) :
    askM B (mapS φ σ) kd s n (φ v) = (mapS φ (askM B σ kd s n v).1, mapO φ (askM B σ kd s n v).2) := by
  have e1 : (mapS φ σ).it n = mapI φ (σ.it n) := rfl
  have e2 : spotOf (mapS φ σ) s n = spotOf σ s n := by
    unfold spotOf
    rw [e1, lastV_map h0, hOf_map h0]
  have e3 : entOf (mapS φ σ) kd s n = entOf σ kd s n := by
    unfold entOf
    rw [e2]; rfl
  rw [ask_R, ask_R, e2, e3]
  exact askR_map h0 B σ kd s n v _ _
theorem reqM_map (B : Bkm) (σ : MIR.S) (kd : Str) (s : Int) (n : Str) (v : Int) :
    reqM B (mapS φ σ) kd s n (φ v) = (mapS φ (reqM B σ kd s n v).1, mapO φ (reqM B σ kd s n v).2) := by
  unfold reqM
  rw [askM_map h0]
  show (if (askM B σ kd s n v).2.word ≠ "wound" then _ else if s ∈ (askM B σ kd s n v).2.fallen then _ else _) = _
  by_cases c1 : (askM B σ kd s n v).2.word ≠ "wound"
  · rw [if_pos c1, if_pos c1]
  rw [if_neg c1, if_neg c1]
  by_cases c2 : s ∈ (askM B σ kd s n v).2.fallen
  · rw [if_pos c2, if_pos c2]; rfl
  rw [if_neg c2, if_neg c2]
  show ((askM B (mapS φ (askM B σ kd s n v).1) kd s n (φ v)).1, _) = _
  rw [askM_map h0]
  rfl
theorem takeM_map (B : Bkm) (σ : MIR.S) (x : Stp) (v : Int) :
    takeM B (mapS φ σ) x (φ v) = (mapS φ (takeM B σ x v).1, mapO φ (takeM B σ x v).2) := by
  unfold takeM
  show (if (σ.ov x.who).isSome = true then _ else _) = _
  by_cases c : (σ.ov x.who).isSome = true
  · rw [if_pos c, if_pos c]; rfl
  rw [if_neg c, if_neg c]
  cases x with
  | com s =>
    show (if waitsOf σ s ≠ [] then _ else _) = _
    by_cases c2 : waitsOf σ s ≠ []
    · rw [if_pos c2]
      show _ = (mapS φ (if waitsOf σ s ≠ [] then (σ, _) else _).1, mapO φ (if waitsOf σ s ≠ [] then (σ, _) else _).2)
      rw [if_pos c2]; rfl
    · rw [if_neg c2]
      show _ = (mapS φ (if waitsOf σ s ≠ [] then (σ, _) else _).1, mapO φ (if waitsOf σ s ≠ [] then (σ, _) else _).2)
      rw [if_neg c2, commS_map h0]; rfl
  | abo s =>
    show (fallS (mapS φ σ) (fal (mapS φ σ) s), _) = (mapS φ (fallS σ (fal σ s)), _)
    rw [fal_map h0, fallS_map h0]
    rfl
  | req kd s n => exact reqM_map h0 B σ kd s n v
end
end
end K16

namespace K16
open PySem L2 SI CM BK OWN MIR StX TX TL
section
variable {w : World} {K : PySem.W.Frag} {mg : Str → Option Value} {base : Heap} (T : Txt w K mg)
/-! what a state is like in a run -/
structure WFS (U : List Int) (σ : MIR.S) : Prop where
  bd : ∀ t, t ∉ U → σ.bd t = []
  ho : ∀ n h v, (σ.it n).opn = some (h, v) → h ∈ U
  nd : ∀ t, (σ.bd t).Nodup
  sb : ∀ t, ∀ h ∈ σ.bd t, h ∈ U
theorem WFS.zero {U : List Int} : WFS U s0 := ⟨fun _ _ => rfl, fun n h v e => (by cases e), fun _ => List.nodup_nil, fun t h hh => (by cases hh)⟩
theorem WFS.fall {U : List Int} {σ : MIR.S} (w : WFS U σ) (L : List Int) : WFS U (fallS σ L) := by
  refine ⟨w.bd, fun n h v e => ?_, w.nd, w.sb⟩
  have e : (relI L (σ.it n)).opn = some (h, v) := e
  unfold relI at e
  cases ho : (σ.it n).opn with
  | none => rw [ho] at e; have e : (σ.it n).opn = some (h, v) := e; rw [ho] at e; cases e
  | some p =>
    rw [ho] at e
    have e : (if p.1 ∈ L then { σ.it n with opn := none } else σ.it n).opn = some (h, v) := e
    by_cases c : p.1 ∈ L
    · rw [if_pos c] at e; cases e
    · rw [if_neg c] at e; exact w.ho n h v e
theorem WFS.comm {U : List Int} {σ : MIR.S} (w : WFS U σ) (s : Int) (k : Nat) : WFS U (commS σ s k) := by
  refine ⟨w.bd, fun n h v e => ?_, w.nd, w.sb⟩
  have e : (setI s k (σ.it n)).opn = some (h, v) := e
  unfold setI at e
  cases ho : (σ.it n).opn with
  | none => rw [ho] at e; have e : (σ.it n).opn = some (h, v) := e; rw [ho] at e; cases e
  | some p =>
    rw [ho] at e
    have e : (if p.1 = s then { σ.it n with kept := lastN k ((σ.it n).kept ++ [(s, p.2)]), opn := none } else σ.it n).opn = some (h, v) := e
    by_cases c : p.1 = s
    · rw [if_pos c] at e; cases e
    · rw [if_neg c] at e; exact w.ho n h v e
theorem WFS.bond {U : List Int} {σ : MIR.S} (w : WFS U σ) {s : Int} (hs : s ∈ U) {h : Int} (hh : h ∈ U) : WFS U (bondS σ s h) := by
  unfold bondS
  by_cases c : h ∈ σ.bd s
  · rw [if_pos c]; exact w
  · rw [if_neg c]
    refine ⟨fun t ht => ?_, w.ho, fun t => ?_, fun t x hx => ?_⟩
    · show (if t = s then σ.bd s ++ [h] else σ.bd t) = []
      rw [if_neg fun e : t = s => ht (by rw [e]; exact hs)]
      exact w.bd t ht
    · show (if t = s then σ.bd s ++ [h] else σ.bd t).Nodup
      by_cases e : t = s
      · rw [if_pos e]
        exact List.nodup_append.mpr ⟨w.nd s, List.nodup_cons.mpr ⟨List.not_mem_nil, List.nodup_nil⟩, fun a ha b hb' q => by rw [List.mem_singleton.mp hb'] at q; exact c (q ▸ ha)⟩
      · rw [if_neg e]; exact w.nd t
    · have hx : x ∈ (if t = s then σ.bd s ++ [h] else σ.bd t) := hx
      by_cases e : t = s
      · rw [if_pos e] at hx
        rcases List.mem_append.mp hx with q | q
        · exact w.sb s x q
        · rw [List.mem_singleton.mp q]; exact hh
      · rw [if_neg e] at hx; exact w.sb t x hx
theorem WFS.its {U : List Int} {σ : MIR.S} (w : WFS U σ) (n : Str) (i : MIR.It) (hi : ∀ h v, i.opn = some (h, v) → h ∈ U) : WFS U (itS σ n i) := by
  refine ⟨w.bd, fun m h v e => ?_, w.nd, w.sb⟩
  have e : (if m = n then i else σ.it m).opn = some (h, v) := e
  by_cases c : m = n
  · rw [if_pos c] at e; exact hi h v e
  · rw [if_neg c] at e; exact w.ho m h v e
theorem WFS.read {U : List Int} {σ : MIR.S} (w : WFS U σ) (n : Str) (s : Int) : WFS U (readS σ n s) := by
  unfold readS
  by_cases c : s ≤ (σ.it n).rd
  · rw [if_pos c]; exact w
  · rw [if_neg c]; exact w.its n _ fun h v e => w.ho n h v e
/-- nobody waits or is wounded where nobody holds -/
theorem none_ans {B : Bkm} (hf : ∀ x ∈ ENT, B.f x ∈ chs x) {σ : MIR.S} {kd : Str} (hk : kd ∈ KINDS) {s : Int} {n : Str} (h0 : hOf (σ.it n) = none) : ansL B kd (spotOf σ s n) (entOf σ kd s n) ∈ (["put", "abort", "last", "old", "skip"] : List Str) := by
  have h2 := no_hold hf B rfl hk (s := s) (x := (lastV (σ.it n)).1) (decide ((σ.it n).rd > s))
  rw [← h0] at h2
  exact h2.1
theorem WFS.ask {U : List Int} {σ : MIR.S} (w : WFS U σ) {B : Bkm} (hf : ∀ x ∈ ENT, B.f x ∈ chs x) {kd : Str} (hk : kd ∈ KINDS) {s : Int} (hs : s ∈ U) (n : Str) (v : Int) : WFS U (askM B σ kd s n v).1 := by
  have hn : hOf (σ.it n) = none → ansL B kd (spotOf σ s n) (entOf σ kd s n) ∈ (["put", "abort", "last", "old", "skip"] : List Str) := fun h => none_ans hf hk h
  rw [ask_R]
  generalize ansL B kd (spotOf σ s n) (entOf σ kd s n) = an at hn
  unfold askR
  have wb : WFS U (if bindM B.ends (spotOf σ s n) an = true then bondS σ s (hInt (σ.it n)) else σ) := by
    by_cases c : bindM B.ends (spotOf σ s n) an = true
    · rw [if_pos c]
      cases ho : (σ.it n).opn with
      | none =>
        have e2 : hOf (σ.it n) = none := by unfold hOf; rw [ho]; rfl
        have hs2 : spotOf σ s n = placeM s (lastV (σ.it n)).1 none := by show placeM s (lastV (σ.it n)).1 (hOf (σ.it n)) = _; rw [e2]
        rw [hs2, bind_none fun z => by have := hn e2; rw [z] at this; exact absurd this (by decide +kernel)] at c
        cases c
      | some p =>
        have e3 : hInt (σ.it n) = p.1 := by unfold hInt; rw [ho]
        rw [e3]
        exact w.bond hs (w.ho n p.1 p.2 ho)
    · rw [if_neg c]; exact w
  split
  · exact w
  split
  · exact w.fall _
  split
  · exact w.fall _
  split
  · exact wb.read n s
  split
  · exact wb
  · exact wb.its n _ fun h v e => by cases e; exact hs
theorem WFS.req {U : List Int} {σ : MIR.S} (w : WFS U σ) {B : Bkm} (hf : ∀ x ∈ ENT, B.f x ∈ chs x) {kd : Str} (hk : kd ∈ KINDS) {s : Int} (hs : s ∈ U) (n : Str) (v : Int) : WFS U (reqM B σ kd s n v).1 := by
  by_cases hw : (askM B σ kd s n v).2.word = "wound"
  · by_cases h2 : s ∈ fal σ (hInt (σ.it n))
    · rw [reqM_self hw h2]; exact w.fall _
    · rw [reqM_two hw h2]; exact (w.fall _).ask hf hk hs n v
  · rw [reqM_one hw]; exact w.ask hf hk hs n v
theorem WFS.take {U : List Int} {σ : MIR.S} (w : WFS U σ) {B : Bkm} (hf : ∀ x ∈ ENT, B.f x ∈ chs x) {x : Stp} (hk : KdOk x) (hx : x.who ∈ U) (v : Int) : WFS U (takeM B σ x v).1 := by
  unfold takeM
  by_cases c : (σ.ov x.who).isSome = true
  · rw [if_pos c]; exact w
  rw [if_neg c]
  cases x with
  | com s =>
    show WFS U (if waitsOf σ s ≠ [] then (σ, (⟨"wait", [], .tup (asc (waitsOf σ s)), []⟩ : Out)) else (commS σ s B.keep, ⟨"commit", [], .non, []⟩)).1
    by_cases c2 : waitsOf σ s ≠ []
    · rw [if_pos c2]; exact w
    · rw [if_neg c2]; exact w.comm s _
  | abo s => exact w.fall _
  | req kd s n => exact w.req hf hk hx n v
theorem WFS.st {B : Bkm} (hf : ∀ x ∈ ENT, B.f x ∈ chs x) {xs : List Stp} (hk : ∀ x ∈ xs, KdOk x) (i : Nat) : WFS (usOf xs) (stN B xs i) := by
  induction i with
  | zero => exact WFS.zero
  | succ i ih =>
    cases e : xs[i]? with
    | none =>
      have : stN B xs (i + 1) = stN B xs i := by
        show (match xs[i]? with | some x => (takeM B (stN B xs i) x (1 + (i : Nat))).1 | none => stN B xs i) = _
        rw [e]
      rw [this]; exact ih
    | some x =>
      rw [stN_at e]
      exact ih.take hf (hk x (List.mem_of_getElem? e)) (List.mem_map.mpr ⟨x, List.mem_of_getElem? e, rfl⟩) _
def nub : List Int → List Int
  | [] => []
  | x :: l => if x ∈ nub l then nub l else x :: nub l
theorem nub_mem : ∀ {l : List Int} {x : Int}, x ∈ nub l ↔ x ∈ l
  | [], _ => Iff.rfl
  | y :: l, x => by
    unfold nub
    by_cases c : y ∈ nub l
    · rw [if_pos c, nub_mem, List.mem_cons]
      exact ⟨.inr, fun h => h.elim (fun e => by rw [e]; exact nub_mem.mp c) id⟩
    · rw [if_neg c, List.mem_cons, List.mem_cons, nub_mem]
theorem nub_nd : ∀ l : List Int, (nub l).Nodup
  | [] => List.nodup_nil
  | y :: l => by
    unfold nub
    by_cases c : y ∈ nub l
    · rw [if_pos c]; exact nub_nd l
    · rw [if_neg c]; exact List.nodup_cons.mpr ⟨c, nub_nd l⟩
theorem WFS.isF {U : List Int} {σ : MIR.S} (w : WFS U σ) {s : Int} (hs : s ∈ U) : IsF σ s (fal σ s) ∧ ∀ t ∈ fal σ s, t ∈ U := by
  have ⟨a, b⟩ := fal_isF (σ := σ) (s := s) (U := nub U) (nub_nd U) (fun t ht => w.bd t fun h => ht (nub_mem.mpr h)) (nub_mem.mpr hs)
  exact ⟨a, fun t h => nub_mem.mp (b t h)⟩
theorem ask_wait {B : Bkm} {σ : MIR.S} {kd : Str} {s : Int} {n : Str} {v : Int} (h : (askM B σ kd s n v).2.word = "wait") : (kd = "wait" ∨ ansL B kd (spotOf σ s n) (entOf σ kd s n) = "wait") ∧ (askM B σ kd s n v).1 = σ := by
  rw [ask_R] at h ⊢
  generalize ansL B kd (spotOf σ s n) (entOf σ kd s n) = an at h ⊢
  unfold askR at h ⊢
  by_cases c1 : an = "wait"
  · rw [if_pos c1]; exact ⟨.inr c1, rfl⟩
  rw [if_neg c1] at h
  by_cases c2 : an = "wound"
  · rw [if_pos c2] at h; exact absurd h (show ("wound" : Str) ≠ "wait" from by decide +kernel)
  rw [if_neg c2] at h
  by_cases c3 : an = "abort" ∨ (an = "old" ∧ oldM (σ.it n) s = [])
  · rw [if_pos c3] at h; exact absurd h (show ("abort" : Str) ≠ "wait" from by decide +kernel)
  rw [if_neg c3] at h
  by_cases c4 : kd = "read"
  · rw [if_pos c4] at h; exact absurd h (show ("read" : Str) ≠ "wait" from by decide +kernel)
  rw [if_neg c4] at h
  by_cases c5 : an = "skip"
  · rw [if_pos c5] at h; exact absurd h (show ("skip" : Str) ≠ "wait" from by decide +kernel)
  rw [if_neg c5] at h
  exact absurd h (show ("put" : Str) ≠ "wait" from by decide +kernel)
theorem ask_void {B : Bkm} {σ : MIR.S} {kd : Str} {s : Int} {n : Str} {v : Int} : (askM B σ kd s n v).2.word ≠ "void" := by
  rw [ask_R]
  generalize ansL B kd (spotOf σ s n) (entOf σ kd s n) = an
  unfold askR
  split
  · exact (show ("wait" : Str) ≠ "void" from by decide +kernel)
  split
  · exact (show ("wound" : Str) ≠ "void" from by decide +kernel)
  split
  · exact (show ("abort" : Str) ≠ "void" from by decide +kernel)
  split
  · exact (show ("read" : Str) ≠ "void" from by decide +kernel)
  split
  · exact (show ("skip" : Str) ≠ "void" from by decide +kernel)
  · exact (show ("put" : Str) ≠ "void" from by decide +kernel)
theorem second_none {U : List Int} {B : Bkm} {σ : MIR.S} (w : WFS U σ) {kd : Str} {s : Int} {n : Str} {v : Int} (hf : ∀ x ∈ ENT, B.f x ∈ chs x) (hk : kd ∈ KINDS) (h : (askM B σ kd s n v).2.word = "wound") : hOf ((fallS σ (fal σ (hInt (σ.it n)))).it n) = none := by
  cases ho : (σ.it n).opn with
  | none => exact absurd h (no_wound hf hk (by unfold hOf; rw [ho]; rfl))
  | some p =>
    have e3 : hInt (σ.it n) = p.1 := by unfold hInt; rw [ho]
    exact rel_none (isF_self (w.isF (by rw [e3]; exact w.ho n p.1 p.2 ho)).1)
theorem req_idle {U : List Int} {B : Bkm} {σ : MIR.S} (w : WFS U σ) {kd : Str} {s : Int} {n : Str} {v : Int} (hf : ∀ x ∈ ENT, B.f x ∈ chs x) (hk : kd ∈ KINDS) (h : (reqM B σ kd s n v).2.word = "wait" ∨ (reqM B σ kd s n v).2.word = "void") : (reqM B σ kd s n v).1 = σ := by
  by_cases hw : (askM B σ kd s n v).2.word = "wound"
  · by_cases hs : s ∈ fal σ (hInt (σ.it n))
    · rw [reqM_self hw hs] at h
      rcases h with h | h
      · exact absurd h (show ("abort" : Str) ≠ "wait" from by decide +kernel)
      · exact absurd h (show ("abort" : Str) ≠ "void" from by decide +kernel)
    · rw [reqM_two hw hs] at h
      have hn := second_none w hf hk hw
      have ha := none_ans (s := s) hf hk hn
      rcases h with h | h
      · rcases (ask_wait h).1 with e | e
        · rw [e] at hk; exact absurd hk (by decide +kernel)
        · rw [e] at ha; exact absurd ha (by decide +kernel)
      · exact absurd h ask_void
  · rw [reqM_one hw] at h ⊢
    rcases h with h | h
    · exact (ask_wait h).2
    · exact absurd h ask_void
theorem take_idle {U : List Int} {B : Bkm} {σ : MIR.S} (w : WFS U σ) {x : Stp} {v : Int} (hf : ∀ x ∈ ENT, B.f x ∈ chs x) (hk : KdOk x) (h : (takeM B σ x v).2.word = "wait" ∨ (takeM B σ x v).2.word = "void") : (takeM B σ x v).1 = σ := by
  unfold takeM at h ⊢
  by_cases c : (σ.ov x.who).isSome = true
  · rw [if_pos c]
  rw [if_neg c] at h ⊢
  cases x with
  | com s =>
    have h : (if waitsOf σ s ≠ [] then (σ, (⟨"wait", [], .tup (asc (waitsOf σ s)), []⟩ : Out)) else (commS σ s B.keep, ⟨"commit", [], .non, []⟩)).2.word = "wait" ∨ (if waitsOf σ s ≠ [] then (σ, (⟨"wait", [], .tup (asc (waitsOf σ s)), []⟩ : Out)) else (commS σ s B.keep, ⟨"commit", [], .non, []⟩)).2.word = "void" := h
    show (if waitsOf σ s ≠ [] then (σ, (⟨"wait", [], .tup (asc (waitsOf σ s)), []⟩ : Out)) else (commS σ s B.keep, ⟨"commit", [], .non, []⟩)).1 = σ
    by_cases c2 : waitsOf σ s ≠ []
    · rw [if_pos c2]
    · rw [if_neg c2] at h
      rcases h with h | h
      · exact absurd h (show ("commit" : Str) ≠ "wait" from by decide +kernel)
      · exact absurd h (show ("commit" : Str) ≠ "void" from by decide +kernel)
  | abo s =>
    rcases h with h | h
    · exact absurd h (show ("abort" : Str) ≠ "wait" from by decide +kernel)
    · exact absurd h (show ("abort" : Str) ≠ "void" from by decide +kernel)
  | req kd s n => exact req_idle w hf hk h
/-- a read's value is a number, and no other step's -/
def VKind (o : Out) : Prop := (o.word = "read" → ∃ z, o.val = .int z) ∧ (o.word ≠ "read" → ∀ z, o.val ≠ .int z)
theorem ask_vkind {B : Bkm} {σ : MIR.S} {kd : Str} {s : Int} {n : Str} {v : Int} (hf : ∀ x ∈ ENT, B.f x ∈ chs x) (hk : kd ∈ KINDS) : VKind (askM B σ kd s n v).2 := by
  have hn : hOf (σ.it n) = none → ansL B kd (spotOf σ s n) (entOf σ kd s n) ∈ (["put", "abort", "last", "old", "skip"] : List Str) := fun h => none_ans hf hk h
  rw [ask_R]
  generalize ansL B kd (spotOf σ s n) (entOf σ kd s n) = an at hn
  unfold askR
  split
  · exact ⟨fun h => absurd h (show ("wait" : Str) ≠ "read" from by decide +kernel), fun _ z h => by cases h⟩
  split
  · exact ⟨fun h => absurd h (show ("wound" : Str) ≠ "read" from by decide +kernel), fun _ z h => by cases h⟩
  split
  · exact ⟨fun h => absurd h (show ("abort" : Str) ≠ "read" from by decide +kernel), fun _ z h => by cases h⟩
  split
  · refine ⟨fun _ => ?_, fun h => absurd rfl h⟩
    show ∃ z, valM (σ.it n) s an = .int z
    unfold valM
    by_cases c1 : an = "open"
    · rw [if_pos c1]
      cases ho : (σ.it n).opn with
      | none => have := hn (by unfold hOf; rw [ho]; rfl); rw [c1] at this; exact absurd this (by decide +kernel)
      | some p => exact ⟨_, rfl⟩
    · rw [if_neg c1]
      by_cases c2 : an = "old"
      · rw [if_pos c2]; exact ⟨_, rfl⟩
      · rw [if_neg c2]; exact ⟨_, rfl⟩
  split
  · exact ⟨fun h => absurd h (show ("skip" : Str) ≠ "read" from by decide +kernel), fun _ z h => by cases h⟩
  · exact ⟨fun h => absurd h (show ("put" : Str) ≠ "read" from by decide +kernel), fun _ z h => by cases h⟩
theorem take_vkind {B : Bkm} {σ : MIR.S} {x : Stp} {v : Int} (hf : ∀ x ∈ ENT, B.f x ∈ chs x) (hk : KdOk x) : VKind (takeM B σ x v).2 := by
  unfold takeM
  by_cases c : (σ.ov x.who).isSome = true
  · rw [if_pos c]; exact ⟨fun h => absurd h (show ("void" : Str) ≠ "read" from by decide +kernel), fun _ z h => by cases h⟩
  rw [if_neg c]
  cases x with
  | com s =>
    show VKind (if waitsOf σ s ≠ [] then (σ, (⟨"wait", [], .tup (asc (waitsOf σ s)), []⟩ : Out)) else (commS σ s B.keep, ⟨"commit", [], .non, []⟩)).2
    by_cases c2 : waitsOf σ s ≠ []
    · rw [if_pos c2]; exact ⟨fun h => absurd h (show ("wait" : Str) ≠ "read" from by decide +kernel), fun _ z h => by cases h⟩
    · rw [if_neg c2]; exact ⟨fun h => absurd h (show ("commit" : Str) ≠ "read" from by decide +kernel), fun _ z h => by cases h⟩
  | abo s => exact ⟨fun h => absurd h (show ("abort" : Str) ≠ "read" from by decide +kernel), fun _ z h => by cases h⟩
  | req kd s n =>
    show VKind (reqM B σ kd s n v).2
    by_cases hw : (askM B σ kd s n v).2.word = "wound"
    · by_cases hs : s ∈ fal σ (hInt (σ.it n))
      · rw [reqM_self hw hs]; exact ⟨fun h => absurd h (show ("abort" : Str) ≠ "read" from by decide +kernel), fun _ z h => by cases h⟩
      · rw [reqM_two hw hs]
        exact ask_vkind (v := v) hf hk
    · rw [reqM_one hw]; exact ask_vkind hf hk
theorem out_good {B : Bkm} (hf : ∀ x ∈ ENT, B.f x ∈ chs x) {xs : List Stp} (hk : ∀ x ∈ xs, KdOk x) (le : xs.length ≤ 100) (i : Nat) : GdO (outN B xs i) := by
  cases e : xs[i]? with
  | none =>
    unfold outN
    rw [e]
    exact ⟨fun e h => (by cases h), fun l h => (by cases h)⟩
  | some x =>
    rw [outN_at e]
    have w := WFS.st (B := B) hf hk i
    have mx := List.mem_of_getElem? e
    unfold takeM
    by_cases c : ((stN B xs i).ov x.who).isSome = true
    · rw [if_pos c]; exact ⟨fun e h => (by cases h), fun l h => (by cases h)⟩
    rw [if_neg c]
    cases x with
    | com s =>
      show GdO (if waitsOf (stN B xs i) s ≠ [] then (stN B xs i, (⟨"wait", [], .tup (asc (waitsOf (stN B xs i) s)), []⟩ : Out)) else (commS (stN B xs i) s B.keep, ⟨"commit", [], .non, []⟩)).2
      by_cases c2 : waitsOf (stN B xs i) s ≠ []
      · rw [if_pos c2]
        refine ⟨fun e h => (by cases h), fun l h => ?_⟩
        cases h
        have nd : (waitsOf (stN B xs i) s).Nodup := (w.nd s).sublist List.filter_sublist
        rw [asc_len nd]
        have h1 := nd_le nd (fun x hx => w.sb s x (List.mem_filter.mp hx).1)
        have h2 : (usOf xs).length = xs.length := List.length_map ..
        omega
      · rw [if_neg c2]; exact ⟨fun e h => (by cases h), fun l h => (by cases h)⟩
    | abo s => exact ⟨fun e h => (by cases h), fun l h => (by cases h)⟩
    | req kd s n => exact req_good _ _ (hk _ mx) _ _ _
theorem out_vkind {B : Bkm} (hf : ∀ x ∈ ENT, B.f x ∈ chs x) {xs : List Stp} (hk : ∀ x ∈ xs, KdOk x) {i : Nat} (hi : i < xs.length) : VKind (outN B xs i) := by
  have e : xs[i]? = some xs[i] := List.getElem?_eq_getElem hi
  rw [outN_at e]
  exact take_vkind hf (hk _ (List.getElem_mem hi))
end
end K16

namespace K16
open PySem L2 SI CM BK OWN MIR StX TX TL
section
variable {w : World} {K : PySem.W.Frag} {mg : Str → Option Value} {base : Heap} (T : Txt w K mg)
theorem ask_word {B : Bkm} {σ : MIR.S} {kd : Str} {s : Int} {n : Str} {v : Int} : ((askM B σ kd s n v).2.word = "wait" ∨ (askM B σ kd s n v).2.word = "wound" ∨ (askM B σ kd s n v).2.word = "abort") ∨ (kd = "read" ∧ (askM B σ kd s n v).2.word = "read") ∨ (kd ≠ "read" ∧ ((askM B σ kd s n v).2.word = "skip" ∨ (askM B σ kd s n v).2.word = "put")) := by
  rw [ask_R]
  generalize ansL B kd (spotOf σ s n) (entOf σ kd s n) = an
  unfold askR
  by_cases c1 : an = "wait"
  · rw [if_pos c1]; exact .inl (.inl rfl)
  rw [if_neg c1]
  by_cases c2 : an = "wound"
  · rw [if_pos c2]; exact .inl (.inr (.inl rfl))
  rw [if_neg c2]
  by_cases c3 : an = "abort" ∨ (an = "old" ∧ oldM (σ.it n) s = [])
  · rw [if_pos c3]; exact .inl (.inr (.inr rfl))
  rw [if_neg c3]
  by_cases c4 : kd = "read"
  · rw [if_pos c4]; exact .inr (.inl ⟨c4, rfl⟩)
  rw [if_neg c4]
  by_cases c5 : an = "skip"
  · rw [if_pos c5]; exact .inr (.inr ⟨c4, .inl rfl⟩)
  · rw [if_neg c5]; exact .inr (.inr ⟨c4, .inr rfl⟩)
/-- the words of a request -/
def ReqW (kd : Str) (wd : Str) : Prop := wd = "wait" ∨ wd = "abort" ∨ (kd = "read" ∧ wd = "read") ∨ (kd ≠ "read" ∧ (wd = "skip" ∨ wd = "put"))
theorem req_word {U : List Int} {B : Bkm} {σ : MIR.S} (w : WFS U σ) (hf : ∀ x ∈ ENT, B.f x ∈ chs x) {kd : Str} (hk : kd ∈ KINDS) {s : Int} (hs : s ∈ U) {n : Str} {v : Int} : ReqW kd (reqM B σ kd s n v).2.word := by
  by_cases c : (askM B σ kd s n v).2.word = "wound"
  · by_cases d : s ∈ fal σ (hInt (σ.it n))
    · rw [reqM_self c d]; exact .inr (.inl rfl)
    · rw [reqM_two c d]
      have nw := no_wound (B := B) hf hk (s := s) (v := v) (second_none w hf hk c)
      show ReqW kd (askM B (fallS σ (fal σ (hInt (σ.it n)))) kd s n v).2.word
      rcases ask_word (B := B) (σ := fallS σ (fal σ (hInt (σ.it n)))) (kd := kd) (s := s) (n := n) (v := v) with (h | h | h) | h | h
      · exact .inl h
      · exact absurd h nw
      · exact .inr (.inl h)
      · exact .inr (.inr (.inl h))
      · exact .inr (.inr (.inr h))
  · rw [reqM_one c]
    rcases ask_word (B := B) (σ := σ) (kd := kd) (s := s) (n := n) (v := v) with (h | h | h) | h | h
    · exact .inl h
    · exact absurd h c
    · exact .inr (.inl h)
    · exact .inr (.inr (.inl h))
    · exact .inr (.inr (.inr h))
theorem ask_rval {B : Bkm} {σ : MIR.S} (hf : ∀ x ∈ ENT, B.f x ∈ chs x) {kd : Str} (hk : kd ∈ KINDS) {s : Int} {n : Str} {v : Int} (h : (askM B σ kd s n v).2.word = "read") : ∃ i, (askM B σ kd s n v).2.val = .int i := by
  have hn : hOf (σ.it n) = none → ansL B kd (spotOf σ s n) (entOf σ kd s n) ∈ (["put", "abort", "last", "old", "skip"] : List Str) := fun h => none_ans hf hk h
  rw [ask_R] at h ⊢
  generalize ansL B kd (spotOf σ s n) (entOf σ kd s n) = an at h hn ⊢
  have hw : ("wound" : Str) ≠ "read" ∧ ("abort" : Str) ≠ "read" ∧ ("wait" : Str) ≠ "read" ∧ ("skip" : Str) ≠ "read" ∧ ("put" : Str) ≠ "read" := by decide +kernel
  obtain ⟨h1, h2, h3, h4, h5⟩ := hw
  unfold askR at h ⊢
  by_cases c1 : an = "wait"
  · rw [if_pos c1] at h; exact absurd h h3
  rw [if_neg c1] at h ⊢
  by_cases c2 : an = "wound"
  · rw [if_pos c2] at h; exact absurd h h1
  rw [if_neg c2] at h ⊢
  by_cases c3 : an = "abort" ∨ (an = "old" ∧ oldM (σ.it n) s = [])
  · rw [if_pos c3] at h; exact absurd h h2
  rw [if_neg c3] at h ⊢
  by_cases c4 : kd = "read"
  · rw [if_pos c4]
    show ∃ i, valM (σ.it n) s an = .int i
    unfold valM
    by_cases c5 : an = "open"
    · rw [if_pos c5]
      cases ho : (σ.it n).opn with
      | some p => exact ⟨_, rfl⟩
      | none =>
        have := hn (by unfold hOf; rw [ho]; rfl)
        rw [c5] at this
        exact absurd this (by decide +kernel)
    · rw [if_neg c5]
      split
      · exact ⟨_, rfl⟩
      · exact ⟨_, rfl⟩
  · rw [if_neg c4] at h
    by_cases c5 : an = "skip"
    · rw [if_pos c5] at h; exact absurd h h4
    · rw [if_neg c5] at h; exact absurd h h5
theorem req_rval {B : Bkm} {σ : MIR.S} (hf : ∀ x ∈ ENT, B.f x ∈ chs x) {kd : Str} (hk : kd ∈ KINDS) {s : Int} {n : Str} {v : Int} (h : (reqM B σ kd s n v).2.word = "read") : ∃ i, (reqM B σ kd s n v).2.val = .int i := by
  by_cases c : (askM B σ kd s n v).2.word = "wound"
  · by_cases d : s ∈ fal σ (hInt (σ.it n))
    · rw [reqM_self c d] at h
      exact absurd h (by show ("abort" : Str) ≠ "read"; decide +kernel)
    · rw [reqM_two c d] at h ⊢
      exact ask_rval hf hk h
  · rw [reqM_one c] at h ⊢
    exact ask_rval hf hk h
/-- what a desk is asked in -/
structure DkPre (CD CB CS CI : Addr) (U : List Int) (N : List Str) (B : Bkm) (ex : List Addr) (H : Hp) (a : Addr) (y : DkA) (σ : MIR.S) (G : List Int) (g : Int) : Prop where
  dk : DkAt CD CB CS CI U N B ex H a y σ G g []
  lk : Locked H ex y.bg
  hf : ∀ x ∈ ENT, B.f x ∈ chs x
  k1 : 1 ≤ B.keep
  k20 : B.keep ≤ 20
  lU : U.length ≤ 400
  lN : N.length ≤ 400
theorem DkPre.same {CD CB CS CI : Addr} {U : List Int} {N : List Str} {B : Bkm} {ex : List Addr} {H H' : Hp} {a : Addr} {y : DkA} {σ : MIR.S} {G : List Int} {g : Int} (h : DkPre CD CB CS CI U N B ex H a y σ G g) (s : Same H H') : DkPre CD CB CS CI U N B ex H' a y σ G g :=
  ⟨h.dk.same s, h.lk.same s, h.hf, h.k1, h.k20, h.lU, h.lN⟩
/-- the error that a step leads to -/
def ErrP (CD CB CS CI CF CM CO : Addr) (U : List Int) (N : List Str) (B : Bkm) (ex : List Addr) (H : Hp) (a : Addr) (y : DkA) (σ : MIR.S) (G : List Int) (g : Int) (x : Stp) (z : Int) (E : XK) : Prop :=
  stopB x (takeM B σ x z).2 = true → ∀ (H' : Hp) (d C : Addr) (fs : List (Str × V)), (∀ b o, b ≠ a → H b = some o → H' b = some o) → DkAt CD CB CS CI U N B ex H' a y (takeM B σ x z).1 G g [] → H' d = some (.xd fs) →
    ((takeM B σ x z).2.word = "void" ∧ C = CF ∧ fs = ([(("stamp" : Str), V.int x.who)] : List (Str × V)) ∨
     (takeM B σ x z).2.word = "wait" ∧ C = CM ∧ (∃ h l, fs = ([(("holders" : Str), V.ref h), (("stamp" : Str), V.int x.who)] : List (Str × V)) ∧ (takeM B σ x z).2.val = .tup l ∧ H' h = some (.tup (l.map V.int))) ∨
     (takeM B σ x z).2.word = "abort" ∧ C = CO ∧ fs = ([(("stamp" : Str), V.int x.who)] : List (Str × V))) → E (.ref C) (some d) H'
theorem ErrP.more {CD CB CS CI CF CM CO : Addr} {U : List Int} {N : List Str} {B : Bkm} {ex : List Addr} {H H1 : Hp} {a : Addr} {y : DkA} {σ : MIR.S} {G : List Int} {g : Int} {x : Stp} {z : Int} {E : XK} (h : ErrP CD CB CS CI CF CM CO U N B ex H a y σ G g x z E) (s : Same H H1) : ErrP CD CB CS CI CF CM CO U N B ex H1 a y σ G g x z E :=
  fun sb H' d C fs km D hd w => h sb H' d C fs (fun b o n z => km b o n (s _ _ z)) D hd w
def spTRead (CT CD CB CS CI CF CM CO : Addr) : Sp := fun vs H Q E => ∃ (U : List Int) (N : List Str) (B : Bkm) (ex : List Addr) (a : Addr) (y : DkA) (σ : MIR.S) (G : List Int) (g : Int) (p : Addr) (n z : Int) (nm : Str), vs = [.ref p, .str nm] ∧ TrnAt CT H p a n ∧
  DkPre CD CB CS CI U N B ex H a y σ G g ∧ n ∈ U ∧ nm ∈ N ∧ NumOk n ∧
  (stopB (.req "read" n nm) (takeM B σ (.req "read" n nm) z).2 = false → ∀ (H' : Hp) (v : V), (∀ b o, b ≠ a → H b = some o → H' b = some o) → DkAt CD CB CS CI U N B ex H' a y (takeM B σ (.req "read" n nm) z).1 G g [] → OvAt H' v (takeM B σ (.req "read" n nm) z).2.val → Q v H') ∧
  ErrP CD CB CS CI CF CM CO U N B ex H a y σ G g (.req "read" n nm) z E
theorem ok_Reader_read : FnOk PP w K mg base (L2.CX PP w) 14 T.f_Reader_read T.d_Reader_read ["self", "item"] (spTRead T.c_Transaction T.c_Desk T.c_Book T.c_State T.c_Item T.c_Finished T.c_MustWait T.c_BrokenOff) := by
  refine T.F_Reader_read.okX sc_Reader_read (fun vs H Q E h => ?_) (fun cdv A outer s H vs Q E hr h => ?_)
  · obtain ⟨U, N, B, ex, a, y, σ, G, g, p, n, z, nm, rfl, _⟩ := h
    rfl
  · obtain ⟨U, N, B, ex, a, y, σ, G, g, p, n, z, nm, rfl, ⟨dx, sp, lf, hp⟩, P, hn, hnm, hno, kT, kF⟩ := h
    refine ⟨_, pss_one (ps_ret (pe_ix ix_tup (pe_meth (pe_fld (pv 0) rfl) T.cl_Desk T.m_Desk_ask (ok_Desk_askX T) (hr.mono (by decide)) (b_Desk_ask T) .nil (passes_call (takes_of rfl rfl rfl rfl) fun _ _ _ _ h => h) (pa_cons (pe_tup (pa_cons pe_str (pa_cons (pe_fld (pv 0) rfl) (pa_cons (pv 1) pa_nil)))) (pa_cons pe_non pa_nil))) pe_int (fun _ _ => rfl))), ?_⟩
    obtain ⟨p0, ha, hS⟩ := P.dk.st
    have three : 3 ≤ sizeLine := by decide
    refine ⟨_, rfl, p, T.c_Transaction, dx, _, _, rfl, hp, T.cl_Transaction, T.na_Transaction_desk, rfl, a, y.dx, _, rfl, ha, (by kernel_rfl), _, rfl, p, T.c_Transaction, dx, _, _, rfl, hp, T.cl_Transaction, T.na_Transaction_number, rfl, _, rfl, three, fun st nst => ?_⟩
    have s1 := same_new (o := .tup [.str "read", .int n, .str nm]) (Same.refl H) nst
    have hst : (upd H st (.tup [.str "read", .int n, .str nm])) st = some (.tup [.str "read", .int n, .str nm]) := upd_same
    have P1 := P.same s1
    have rk : ("read" : Str) ∈ KINDS ∧ ("read" : Str) ≠ "write" := by decide +kernel
    refine ⟨U, N, B, ex, a, y, σ, G, g, st, .non, z, .req "read" n nm, rfl, P1.dk, P1.lk, P1.hf, P1.k1, P1.k20, hst, ⟨hn, hnm, rk.1, fun e => absurd e rk.2⟩, P1.lU, P1.lN, hno, (fun k s' n' e => by cases e; exact rk.1), fun sb H' q km D' hO => ?_, kF.more s1⟩
    obtain ⟨m, vv, fl, o1, o2, o3, o4⟩ := hO
    exact ⟨q, _, _, vv, rfl, rfl, SqT.of o1, rfl, kT sb H' vv (fun b o e z' => km b o e (s1 _ _ z')) D' o3⟩
def spTWrite (CT CD CB CS CI CF CM CO : Addr) : Sp := fun vs H Q E => ∃ (U : List Int) (N : List Str) (B : Bkm) (ex : List Addr) (a : Addr) (y : DkA) (σ : MIR.S) (G : List Int) (g : Int) (p : Addr) (n z : Int) (nm : Str), vs = [.ref p, .str nm, .int z] ∧ TrnAt CT H p a n ∧
  DkPre CD CB CS CI U N B ex H a y σ G g ∧ n ∈ U ∧ nm ∈ N ∧ NumOk n ∧
  (stopB (.req "write" n nm) (takeM B σ (.req "write" n nm) z).2 = false → ∀ (H' : Hp), (∀ b o, b ≠ a → H b = some o → H' b = some o) → DkAt CD CB CS CI U N B ex H' a y (takeM B σ (.req "write" n nm) z).1 G g [] → Q (.bl (decide ((takeM B σ (.req "write" n nm) z).2.word = "put"))) H') ∧
  ErrP CD CB CS CI CF CM CO U N B ex H a y σ G g (.req "write" n nm) z E
theorem ok_Writer_write : FnOk PP w K mg base (L2.CX PP w) 14 T.f_Writer_write T.d_Writer_write ["self", "item", "value"] (spTWrite T.c_Transaction T.c_Desk T.c_Book T.c_State T.c_Item T.c_Finished T.c_MustWait T.c_BrokenOff) := by
  refine T.F_Writer_write.okX sc_Writer_write (fun vs H Q E h => ?_) (fun cdv A outer s H vs Q E hr h => ?_)
  · obtain ⟨U, N, B, ex, a, y, σ, G, g, p, n, z, nm, rfl, _⟩ := h
    rfl
  · obtain ⟨U, N, B, ex, a, y, σ, G, g, p, n, z, nm, rfl, ⟨dx, sp, lf, hp⟩, P, hn, hnm, hno, kT, kF⟩ := h
    refine ⟨_, pss_one (ps_ret (pe_cmpR op_eq (pe_ix ix_tup (pe_meth (pe_fld (pv 0) rfl) T.cl_Desk T.m_Desk_ask (ok_Desk_askX T) (hr.mono (by decide)) (b_Desk_ask T) .nil (passes_call (takes_of rfl rfl rfl rfl) fun _ _ _ _ h => h) (pa_cons (pe_tup (pa_cons pe_str (pa_cons (pe_fld (pv 0) rfl) (pa_cons (pv 1) pa_nil)))) (pa_cons (pv 2) pa_nil))) pe_int (fun _ _ => rfl)) pe_str (nomark _))), ?_⟩
    obtain ⟨p0, ha, hS⟩ := P.dk.st
    have three : 3 ≤ sizeLine := by decide
    refine ⟨_, rfl, p, T.c_Transaction, dx, _, _, rfl, hp, T.cl_Transaction, T.na_Transaction_desk, rfl, a, y.dx, _, rfl, ha, (by kernel_rfl), _, rfl, p, T.c_Transaction, dx, _, _, rfl, hp, T.cl_Transaction, T.na_Transaction_number, rfl, _, rfl, three, fun st nst => ?_⟩
    have s1 := same_new (o := .tup [.str "write", .int n, .str nm]) (Same.refl H) nst
    have hst : (upd H st (.tup [.str "write", .int n, .str nm])) st = some (.tup [.str "write", .int n, .str nm]) := upd_same
    have P1 := P.same s1
    have rk : ("write" : Str) ∈ KINDS := by decide +kernel
    refine ⟨_, rfl, U, N, B, ex, a, y, σ, G, g, st, .int z, z, .req "write" n nm, rfl, P1.dk, P1.lk, P1.hf, P1.k1, P1.k20, hst, ⟨hn, hnm, rk, fun _ => rfl⟩, P1.lU, P1.lN, hno, (fun k s' n' e => by cases e; exact rk), fun sb H' q km D' hO => ?_, kF.more s1⟩
    obtain ⟨m, vv, fl, o1, o2, o3, o4⟩ := hO
    refine ⟨q, _, _, .str (takeM B σ (.req "write" n nm) z).2.word, rfl, rfl, SqT.of o1, rfl, rfl, ?_⟩
    rw [ds]
    exact kT sb H' (fun b o e z => km b o e (s1 _ _ z)) D'
def spTEndX (CT CD CB CS CI CF CM CO : Addr) (which : Int → Stp) : Sp := fun vs H Q E => ∃ (U : List Int) (N : List Str) (B : Bkm) (ex : List Addr) (a : Addr) (y : DkA) (σ : MIR.S) (G : List Int) (g : Int) (p : Addr) (n z : Int), vs = [.ref p] ∧ TrnAt CT H p a n ∧
  DkPre CD CB CS CI U N B ex H a y σ G g ∧ n ∈ U ∧ NumOk n ∧
  (stopB (which n) (takeM B σ (which n) z).2 = false → ∀ (H' : Hp), (∀ b o, b ≠ a → H b = some o → H' b = some o) → DkAt CD CB CS CI U N B ex H' a y (takeM B σ (which n) z).1 G g [] → Q .non H') ∧
  ErrP CD CB CS CI CF CM CO U N B ex H a y σ G g (which n) z E
theorem ok_commitX : FnOk PP w K mg base (L2.CX PP w) 14 T.f_Transaction_commit T.d_Transaction_commit ["self"] (spTEndX T.c_Transaction T.c_Desk T.c_Book T.c_State T.c_Item T.c_Finished T.c_MustWait T.c_BrokenOff .com) := by
  refine T.F_Transaction_commit.okX sc_Transaction_commit (fun vs H Q E h => ?_) (fun cdv A outer s H vs Q E hr h => ?_)
  · obtain ⟨U, N, B, ex, a, y, σ, G, g, p, n, z, rfl, _⟩ := h
    rfl
  · obtain ⟨U, N, B, ex, a, y, σ, G, g, p, n, z, rfl, ⟨dx, sp, lf, hp⟩, P, hn, hno, kT, kF⟩ := h
    refine ⟨_, pss_one (ps_expr (pe_meth (pe_fld (pv 0) rfl) T.cl_Desk T.m_Desk_ask (ok_Desk_askX T) (hr.mono (by decide)) (b_Desk_ask T) .nil (passes_call (takes_of rfl rfl rfl rfl) fun _ _ _ _ h => h) (pa_cons (pe_tup (pa_cons pe_str (pa_cons (pe_fld (pv 0) rfl) pa_nil))) (pa_cons pe_non pa_nil)))), ?_⟩
    obtain ⟨p0, ha, hS⟩ := P.dk.st
    have two : 2 ≤ sizeLine := by decide
    refine ⟨_, rfl, p, T.c_Transaction, dx, _, _, rfl, hp, T.cl_Transaction, T.na_Transaction_desk, rfl, a, y.dx, _, rfl, ha, (by kernel_rfl), _, rfl, p, T.c_Transaction, dx, _, _, rfl, hp, T.cl_Transaction, T.na_Transaction_number, rfl, two, fun st nst => ?_⟩
    have s1 := same_new (o := .tup [.str "commit", .int n]) (Same.refl H) nst
    have hst : (upd H st (.tup [.str "commit", .int n])) st = some (.tup [.str "commit", .int n]) := upd_same
    have P1 := P.same s1
    exact ⟨U, N, B, ex, a, y, σ, G, g, st, .non, z, .com n, rfl, P1.dk, P1.lk, P1.hf, P1.k1, P1.k20, hst, hn, P1.lU, P1.lN, hno, (fun k s' n' e => by cases e), fun sb H' q km D' hO => kT sb H' (fun b o e z => km b o e (s1 _ _ z)) D', kF.more s1⟩
theorem ok_abortX : FnOk PP w K mg base (L2.CX PP w) 14 T.f_Transaction_abort T.d_Transaction_abort ["self"] (spTEndX T.c_Transaction T.c_Desk T.c_Book T.c_State T.c_Item T.c_Finished T.c_MustWait T.c_BrokenOff .abo) := by
  refine T.F_Transaction_abort.okX sc_Transaction_abort (fun vs H Q E h => ?_) (fun cdv A outer s H vs Q E hr h => ?_)
  · obtain ⟨U, N, B, ex, a, y, σ, G, g, p, n, z, rfl, _⟩ := h
    rfl
  · obtain ⟨U, N, B, ex, a, y, σ, G, g, p, n, z, rfl, ⟨dx, sp, lf, hp⟩, P, hn, hno, kT, kF⟩ := h
    refine ⟨_, pss_one (ps_expr (pe_meth (pe_fld (pv 0) rfl) T.cl_Desk T.m_Desk_ask (ok_Desk_askX T) (hr.mono (by decide)) (b_Desk_ask T) .nil (passes_call (takes_of rfl rfl rfl rfl) fun _ _ _ _ h => h) (pa_cons (pe_tup (pa_cons pe_str (pa_cons (pe_fld (pv 0) rfl) pa_nil))) (pa_cons pe_non pa_nil)))), ?_⟩
    obtain ⟨p0, ha, hS⟩ := P.dk.st
    have two : 2 ≤ sizeLine := by decide
    refine ⟨_, rfl, p, T.c_Transaction, dx, _, _, rfl, hp, T.cl_Transaction, T.na_Transaction_desk, rfl, a, y.dx, _, rfl, ha, (by kernel_rfl), _, rfl, p, T.c_Transaction, dx, _, _, rfl, hp, T.cl_Transaction, T.na_Transaction_number, rfl, two, fun st nst => ?_⟩
    have s1 := same_new (o := .tup [.str "abort", .int n]) (Same.refl H) nst
    have hst : (upd H st (.tup [.str "abort", .int n])) st = some (.tup [.str "abort", .int n]) := upd_same
    have P1 := P.same s1
    exact ⟨U, N, B, ex, a, y, σ, G, g, st, .non, z, .abo n, rfl, P1.dk, P1.lk, P1.hf, P1.k1, P1.k20, hst, hn, P1.lU, P1.lN, hno, (fun k s' n' e => by cases e), fun sb H' q km D' hO => kT sb H' (fun b o e z => km b o e (s1 _ _ z)) D', kF.more s1⟩
end
end K16

/-! C(e, k = v) whose __init__ may raise, within a try. -/
namespace EX
open PySem PySem.Spec PyProof.Rows L2
section
variable {X : Cx} {CX : CXT} {k n : Nat} {f C : Addr} {fd : FuncData} {ps ks : List Str} {sp : Sp} {ES : L2.St → XK} {x : Str} {p pos : Pos} {e : Expr} {es : List Expr} {kws : List Keyword} {t tk : TA} {g : List Value → List Value → List Value} {gV : List V → List V → List V}
def tMakeKS (C : Addr) (n m : Nat) (sp : Sp) (gV : List V → List V → List V) (ES : L2.St → XK) (t tk : TA) : TE := fun σ H Q => t σ H fun vs H1 => tk σ H1 fun zs H2 => vs.length = n ∧ zs.length = m ∧
  ∀ y dy, H2 y = none → H2 dy = none → dy ≠ y → sp (gV (.ref y :: vs) zs) (upd (upd H2 dy (.own y)) y (.ins C dy [])) (fun v H3 => v = .non ∧ Q (.ref y) H3) (ES σ)
theorem pe_makeKS (M : Mk X.K C f) (F : FnOk X.prog X.w X.K X.mg X.base CX k f fd ps sp) (hr : Room (k + 1) X.A) (hg : Gl X x) (hm : X.mg x = some (.ref C)) (hb : KBn X.K fd ps (n + 1) ks g gV) (hx : ∀ σ, PassesAt CX X σ (ES σ)) (ha : PA X (e :: es) t) (hkw : PK X kws tk)
    (hall : (backToKw pos (keywordEach kws X.env)).all (·.1.isSome) = true := by rfl) (hks : (backToKw pos (keywordEach kws X.env)).filterMap (·.1) = ks := by rfl) (hdb : (x == ("__debug__" : Str)) = false := by decide)
    (he : starEach (e :: es) X.env = (false, eval e X.env) :: starEach es X.env := by rfl) (hpl : ((backTo pos (starEach (e :: es) X.env)).any (·.1) || (backToKw pos (keywordEach kws X.env)).any (·.1.isNone)) = false := by rfl) :
    PE X (.Call (.Name x p) (e :: es) kws pos) (tMakeKS C n ks.length sp gV ES t tk) := by
  refine ⟨fun pins s σ H Q I h => wpAny_Call_Name_kw (ld_glob I hg hm ?_ hdb)⟩
  refine PySem.W.callWith_KW (h₀ := X.base) I.ok.mod.kin M.kp hall (thn (ha.run pos pins s σ H _ I h) fun us s1 ⟨vs, H1, I1, r, q⟩ => ?_) hpl he
  refine thn (hkw.run pos pins s1 σ H1 _ I1 q) fun ws s2 ⟨zs, H2, I2, rz, l1, l2, q2⟩ => ⟨I2.kIn, ?_⟩
  rw [hks]
  have now := q2 (s2.heap.objs.size + 1) s2.heap.objs.size (I2.hok.fresh (Nat.le_succ _)) (I2.hok.fresh (Nat.le_refl _)) (Nat.ne_of_lt (Nat.lt_succ_self _))
  have J := Inv.made (C := C) I2
  have r1 : Vals (V.ref (s2.heap.objs.size + 1) :: vs) (Value.ref (s2.heap.objs.size + 1) :: us) := .cons rfl r
  have len1 : (Value.ref (s2.heap.objs.size + 1) :: us).length = n + 1 := by rw [List.length_cons, ← r.length, l1]
  have run := F.run _ X.stack _ _ ⟨Value.ref (s2.heap.objs.size + 1) :: us, ks.zip ws⟩ (g (Value.ref (s2.heap.objs.size + 1) :: us) ws) _ _ (ES σ) (hr.make C us (ks.zip ws)) (J.env0.make C us (ks.zip ws))
    (hb.to _ (Value.ref (s2.heap.objs.size + 1) :: us) ws J.kIn len1 (rz.length.symm.trans l2)) (hb.rel r1 rz) now
  refine wpAny_call (make_map (f := f) I2.kIn M.makes M.init (beq_iff_eq.mp M.fn) (codeAny_mono run fun res s3 done => ?_))
  match res, done with
  | .error err, done => exact hx σ pins _ _ err s3 J done
  | .ok (.ret u), done =>
    obtain ⟨v, H', I3, rv, ev, q3⟩ := J.after done
    subst ev
    exact ⟨rv, ⟨V.ref (s2.heap.objs.size + 1), H', I3, rfl, q3⟩⟩
  | .ok .next, done => exact done.elim
  | .ok .brk, done => exact done.elim
  | .ok .cont, done => exact done.elim
end
end EX
namespace EX
open PySem PySem.Spec PyProof.Rows L2 CM
/-- isinstance of the caught error, whatever own class it has -/
def rIsE (K : PySem.W.Frag) (a : Addr) (cls : Value) (d : Option Addr) : List V → Hp → VK → Prop := fun xs H Q => ∃ D, ExcC K D ∧ rIsD K D a cls d xs H Q
theorem call_isE {X : Cx} {a : Addr} {cls : Value} {d : Option Addr} {oe : Obj} {pn : List (Addr × Obj)} (hz : Zc cls d oe) (hf : ∃ vs, oe.data = .fields vs) : CallR (X.suite a ((a, oe) :: pn)) (.builtin "isinstance") (rIsE X.K a cls d) := by
  intro pins s σ H xs us Q I r h
  obtain ⟨D, C, h⟩ := h
  exact call_isD C hz hf pins s σ H xs us Q I r h
/-- flat values as data -/
def dv : V → PyData
  | .bl b => .bool b
  | .int i => .int i
  | .str x => .str x
  | _ => .none
def dOk : V → Bool
  | .non => true
  | .bl _ => true
  | .int _ => true
  | .str x => PyData.strOk x
  | _ => false
theorem dOk_flat {v : V} (h : dOk v = true) : flatV v = true := by
  cases v with
  | byt _ => cases h
  | flt _ => cases h
  | ref _ => cases h
  | ty _ => cases h
  | _ => rfl
theorem dp_flat {K : PySem.W.Frag} {H : Hp} {v : V} (h : dOk v = true) : Dp K H v (dv v) := by
  cases v with
  | non => exact .non
  | bl b => exact .bl b
  | int i => exact .int i
  | str x => exact .str x
  | _ => cases h
theorem dp_list {K : PySem.W.Frag} {H : Hp} {p : Addr} {xs : List V} (h : SqL K H p xs) (ok : xs.all dOk = true) : Dp K H (.ref p) (.list (xs.map dv)) := by
  refine .lst h ?_
  clear h
  induction xs with
  | nil => exact .nil
  | cons x r ih =>
    rw [List.all_cons, Bool.and_eq_true] at ok
    exact .cons (dp_flat ok.1) (ih ok.2)
theorem dv_shaped {xs : List V} (ok : xs.all dOk = true) : SeqAt.shaped (.list (xs.map dv)) = true := by
  have all0 : PyData.canLayAll0 (xs.map dv) = true := by
    induction xs with
    | nil => rfl
    | cons x r ih =>
      rw [List.all_cons, Bool.and_eq_true] at ok
      rw [List.map_cons]
      have hx : PyData.canLay0 (dv x) = true := by
        cases x with
        | str z => exact ok.1
        | non => rfl
        | bl b => rfl
        | int i => rfl
        | _ => cases ok.1
      simp [PyData.canLayAll0, hx, ih ok.2]
  have dep : PyData.depthAll (xs.map dv) ≤ 1 := by
    clear all0
    induction xs with
    | nil => simp [PyData.depthAll]
    | cons x r ih =>
      rw [List.all_cons, Bool.and_eq_true] at ok
      rw [List.map_cons]
      have hx : PyData.depth (dv x) ≤ 1 := by cases x <;> simp [dv, PyData.depth]
      have := ih ok.2
      simp only [PyData.depthAll]
      omega
  simp [SeqAt.shaped, PyData.canLay0, PyData.depth, all0]
  omega
end EX

/-! try with two clauses 'except C as n', one name. -/
namespace TA
open PySem PySem.Spec PyProof.Rows L2
section
variable {X : Cx} {x1 x2 n : Str} {c1 c2 : Value} {i : Nat} {body su1 su2 : List Stmt} {b1 b2 : Stmt} {np1 np2 pos pos1 pos2 : Pos} {tb : WX → TS} {ts1 ts2 : Addr → Value → Option Addr → TS} {Wout : WX}
abbrev AtSuite (X : Cx) (b : Stmt) (su : List Stmt) (ts : Addr → Value → Option Addr → TS) : Prop :=
  ∀ (a : Addr) (oe : Obj) (cls : Value) (d : Option Addr) (pn : List (Addr × Obj)), Zc cls d oe → (∃ vs, oe.data = .fields vs) → PSs (X.suite a ((a, oe) :: pn)) (b :: su) (ts a cls d)
theorem ps_try_as2 (hs : X.stack = X.env :: X.outer) (hf : X.env.frame = some X.env.locals) (hN : X.N.Nodup) (hi : X.N[i]? = some n) (hln : X.env.kindOf n = some .local) (hc1 : Names X x1 c1) (hc2 : Names X x2 c2) (tk : Takes X Wout)
    (hb : ∀ (W : WX) (pn : List (Addr × Obj)) (xe : Value → Shared → Prop), Takes (X.tr pn xe) W → PassesOwn (model X.prog X.w) X.A X.env xe → PSs (X.tr pn xe) body (tb W))
    (hs1 : AtSuite X b1 su1 ts1) (hs2 : AtSuite X b2 su2 ts2) :
    PS X (.Try body [.ExceptHandler (some (.Name x1 np1)) (some n) (b1 :: su1) pos1, .ExceptHandler (some (.Name x2 np2)) (some n) (b2 :: su2) pos2] [] [] pos) (fun D σ H => tb (wAs X.K c1 i ts1 (wAs X.K c2 i ts2 Wout D) D) D σ H) := by
  refine ⟨fun pins s σ H D I h => ?_⟩
  have ok := I.ok
  have frs0 : X.A.frames = some (X.env :: X.outer) := by rw [ok.frames, hs]
  have loc : Loc X.env.scope n := .inl hln
  refine wpAny_Try_except ?_
  refine wpAny_mono ((hb (wAs X.K c1 i ts1 (wAs X.K c2 i ts2 Wout D) D) (X.pn ++ pins) _ (fun u s' caught => ?_) PassesOwn.looking).run [] s σ H D (I.toTry _) h) (fun f s1 ended => ?_) (fun e s1 he => he)
  · obtain ⟨a, B, sI, pins', σ', H', cls, d, rfl, J0, nb, up, sky, na, os, ag, wish⟩ := caught
    have J : Inv X pins σ' H' sI := J0.ofTry ok
    have sky2 : Sky B (X.env :: X.outer) a (Zc cls d) X.env.locals s'.heap := by rw [← hs]; exact sky
    show wpAny (model X.prog X.w) X.A (noteFrame (.ref a) X.env) _ _ _
    refine Sky.land Zc.steady frs0 hf sky2 fun hh fly up3 => ?_
    have JJ : Inv X pins σ' H' { s' with heap := hh } := J.landed nb fly.1 (up.trans up3) os ag
    obtain ⟨oe, vs, he, hz, hd⟩ := fly.there
    have off : a ∉ frs (X.env :: X.outer) := fun hm => by
      obtain ⟨_, o2, e2, bad⟩ := fly.2.2.1.mem hm
      rw [he] at e2
      cases e2
      exact bad _ hd
    have offL : a ≠ X.env.locals := fun z => off (List.mem_filterMap.mpr ⟨X.env, List.mem_cons_self, by rw [hf, z]⟩)
    have offF : a ∉ X.fs := fun hm => by
      obtain ⟨e, h1, h2⟩ := List.mem_filterMap.mp hm
      exact off (List.mem_filterMap.mpr ⟨e, List.mem_cons_of_mem _ h1, h2⟩)
    have SS := JJ.suite he hd na offL offF
    have ty : PySem.W.Looks (model X.prog X.w) hh (typeOf (.ref a)) cls := fun A Q E s k q => wpAny_typeOf_ref (k _ _ he) (by rw [hz.1]; exact q)
    -- one clause
    have clause : ∀ {x : Str} {c : Value} {np pos' : Pos} {b₀ : Stmt} {su : List Stmt} {ts : Addr → Value → Option Addr → TS} {rest : List ExceptHandler}, Names X x c → AtSuite X b₀ su ts →
        (∃ b, PySem.W.exmOne X.K cls c = some b ∧ (b = true → ∀ a, H' a = none → ts a cls d { nx := fun σ' H' => D.nx (σ'.set i none) H', rt := D.rt, bk := fun σ' H' => D.bk (σ'.set i none) H', ct := fun σ' H' => D.ct (σ'.set i none) H' } (σ'.set i (some (.ref a))) H') ∧
          (b = false → wpAny (model X.prog X.w) X.A (handleBy (.ref a) X.env rest) (SP X pins D) X.xe { s' with heap := hh })) →
        wpAny (model X.prog X.w) X.A (handleBy (.ref a) X.env (.ExceptHandler (some (.Name x np)) (some n) (b₀ :: su) pos' :: rest)) (SP X pins D) X.xe { s' with heap := hh } := by
      intro x c np pos' b₀ su ts rest nm at_ ⟨b, eb, yes, no⟩
      refine wpAny_handleBy_cons (codeAny_handlers_test ?_) (by intro q; cases q)
      have is := PySem.W.exm_one (M := model X.prog X.w) (JJ.kIn) ty eb
      have named : ∀ {Q : Value → Shared → Prop} {E : Value → Shared → Prop}, Q c { s' with heap := hh } → wpAny (model X.prog X.w) (X.A.mark (some (.ref a))) (eval (.Name x np) X.env) Q E { s' with heap := hh } := fun {Q E} q => by
        obtain ⟨g, nd, m | ⟨m, v, nn⟩⟩ := nm
        · exact ld_glob (X := X.suite a ((a, oe) :: (X.pn ++ pins))) SS g m q nd
        · exact ld_blt (X := X.suite a ((a, oe) :: (X.pn ++ pins))) SS g m v q nn nd
      refine named (is.here ?_)
      cases b with
      | false => exact no rfl
      | true =>
        refine codeAny_handlers_suite_as ?_
        refine HandSPX.lands_againZ fly fun h4 fly4 up4 => ?_
        have J4 : Inv X pins σ' H' { s' with heap := h4 } := J.landed nb fly4.1 ((up.trans up3).trans up4) os ag
        obtain ⟨oe4, vs4, he4, hz4, hd4⟩ := fly4.there
        have S4 := J4.suite he4 hd4 na offL offF
        refine store_ok (X := X.suite a ((a, oe4) :: (X.pn ++ pins))) (v := .ref a) S4 hN hi loc rfl (fun s5 S5 => ?_) (.inr hln)
        refine wpAny_mono ((at_ a oe4 cls d (X.pn ++ pins) hz4 ⟨_, hd4⟩).run [] s5 _ H' _ S5 (yes rfl a na)) (fun f s6 out => ?_) (fun _ _ z => False.elim z)
        have done : ∀ {σ6 : L2.St} {H6 : Hp} {Q : Shared → Prop}, Inv (X.suite a ((a, oe4) :: (X.pn ++ pins))) [] σ6 H6 s6 → (∀ s7, Inv X pins (σ6.set i none) H6 s7 → Q s7) →
            wpAny (model X.prog X.w) X.A (do bindName X.env n .none; unbindBehindTheSuite X.env n pos') (fun _ s7 => Q s7) X.xe s6 := fun {σ6 H6 Q} S6 hq => gone_ok (S6.unsuite ok) hN hi hln hq
        cases f with
        | ret u =>
          obtain ⟨v6, σ6, H6, S6, r6, q6⟩ := out
          exact done S6 fun s7 J7 => ⟨_, _, _, J7, r6, q6⟩
        | next =>
          obtain ⟨σ6, H6, S6, q6⟩ := out
          exact done S6 fun s7 J7 => ⟨_, _, J7, q6⟩
        | brk =>
          obtain ⟨σ6, H6, S6, q6⟩ := out
          exact done S6 fun s7 J7 => ⟨_, _, J7, q6⟩
        | cont =>
          obtain ⟨σ6, H6, S6, q6⟩ := out
          exact done S6 fun s7 J7 => ⟨_, _, J7, q6⟩
    obtain ⟨bb1, e1, y1, no1⟩ := wish
    refine clause hc1 hs1 ⟨bb1, e1, y1, fun z1 => ?_⟩
    obtain ⟨bb2, e2, y2, no2⟩ := no1 z1
    refine clause hc2 hs2 ⟨bb2, e2, y2, fun z2 => ?_⟩
    refine wpAny_handleBy_nil ?_
    obtain ⟨k1, k2, k3, oq, vq, Tb, oT, tq, hq1, hq2, hq3, hq4, hq5⟩ := id fly
    unfold PySem.passOn
    refine wpAny_bind (wpAny_field hq1 hq3 hq4 ?_)
    rw [if_neg (show ¬ ((Value.ref Tb == Value.none) = true) from by simp)]
    have away : wpAny (model X.prog X.w) X.A (setFlight (.ref a) X.env.frame) (fun _ s4 => wpAny (model X.prog X.w) X.A (throw (.ref a) : Sem Flow) (SP X pins D) X.xe s4) X.xe { s' with heap := hh } := by
      rw [hf]
      refine HandSPX.setFlight_upZ fly fun h4 hh4 up4 => wpAny_throw (tk _ _ ?_)
      exact ⟨a, B, sI, pins, σ', H', cls, d, rfl, J, nb, (up.trans up3).trans up4, .inr (.inr (by rw [hs]; exact hh4)), na, os, ag, no2 z2⟩
    first
      | exact wpAny_bind (wpAny_pure (wpAny_bind away))
      | exact wpAny_bind away
  · cases f with
    | ret u =>
      obtain ⟨v, σ', H', J', r, q⟩ := ended
      exact ⟨v, σ', H', J'.ofTry ok, r, q⟩
    | next =>
      obtain ⟨σ', H', J', q⟩ := ended
      exact wpAny_execs_nil ⟨σ', H', J'.ofTry ok, q⟩
    | brk =>
      obtain ⟨σ', H', J', q⟩ := ended
      exact ⟨σ', H', J'.ofTry ok, q⟩
    | cont =>
      obtain ⟨σ', H', J', q⟩ := ended
      exact ⟨σ', H', J'.ofTry ok, q⟩
end
end TA

/-! o.m() within a try. -/
namespace MK
open PySem PySem.Spec PyProof.Rows L2 OWN
section
variable {X : Cx} {CX : CXT} {C f : Addr} {k : Nat} {sp : Sp} {ES : L2.St → XK} {o : Expr} {m : Str} {pos apos : Pos} {ta : TE}
theorem pe_methES0 {pl : Sem Bool} (he : PE X o ta) (c : Cls X.K C) (hm : Meth X.K C m f) (F : FnR X.prog X.w X.K X.mg X.base CX k f sp) (hr : Room k X.A) (hx : ∀ σ, PassesAt CX X σ (ES σ))
    (ht : eval (.Call (.Attribute o m apos) [] [] pos) X.env = (do
      let ov ← eval o X.env
      standAt apos.atName
      let (f, first) ← holding [ov] (getMethod ov m pl)
      callWith pos f first (backTo pos (starEach [] X.env)) (backToKw pos (keywordEach [] X.env))) := by rfl) :
    PE X (.Call (.Attribute o m apos) [] [] pos) (tMethS C m sp ES ta tNil) := by
  refine ⟨fun pins s σ H Q I h => ?_⟩
  refine PySem.W.methodCall_KW (pl := pl) (thn (he.run pins s σ H _ I h) fun u s1 ⟨x, H1, I1, rx, a, dx, fs, ex, ea, l, q⟩ => ?_) ht
  subst ex
  obtain rfl : u = Value.ref a := rx
  refine getmeth_ok I1 ea c hm l ?_
  exact PySem.W.callWith_K0 (first := [.ref a]) I1.kIn hm.kp (run_fnRS (us := [.ref a]) (vs := [.ref a]) F hr (hx σ) I1 (.cons rfl .nil) q)
end
end MK

namespace K16
open PySem L2 SI CM BK OWN MIR StX TX TL
section
variable {w : World} {K : PySem.W.Frag} {mg : Str → Option Value} {base : Heap} (T : Txt w K mg)
theorem call_or3 {X : Cx} {v : Value} {r1 r2 : List V → Hp → (V → Hp → Prop) → Prop} (h1 : CallR X v r1) (h2 : CallR X v r2) : CallR X v (fun xs H Q => r1 xs H Q ∨ r2 xs H Q) := by
  intro pins s σ H vs us Q I r h
  rcases h with h | h
  · exact h1 pins s σ H vs us Q I r h
  · exact h2 pins s σ H vs us Q I r h
def wordA (x : Stp) (o : Out) : Str := if o.word = "abort" ∧ kindX x ≠ "abort" then "broken" else o.word
def AskedV (H : Hp) (o : Out) (v : V) : Prop := (o.word = "wait" → ∃ h l, o.val = .tup l ∧ v = .ref h ∧ H h = some (.tup (l.map V.int))) ∧ (o.word = "read" → ∃ i, o.val = .int i ∧ v = .int i) ∧ (o.word ≠ "wait" → o.word ≠ "read" → v = .bl true)
def AskedAt (H : Hp) (q : Addr) (x : Stp) (o : Out) : Prop := ∃ v, H q = some (.lst [.str (wordA x o), v]) ∧ AskedV H o v
theorem take_words {U : List Int} {B : Bkm} {σ : MIR.S} (w : WFS U σ) (hf : ∀ x ∈ ENT, B.f x ∈ chs x) {x : Stp} {z : Int} (hk : ∀ k s n, x = .req k s n → k ∈ KINDS) (hw : x.who ∈ U) :
    (takeM B σ x z).2.word = "void" ∨ (∃ k s n, x = .req k s n ∧ ReqW k (takeM B σ x z).2.word ∧ ((takeM B σ x z).2.word = "read" → ∃ i, (takeM B σ x z).2.val = .int i)) ∨ (∃ s, x = .com s ∧ ((takeM B σ x z).2.word = "wait" ∨ (takeM B σ x z).2.word = "commit")) ∨ (∃ s, x = .abo s ∧ (takeM B σ x z).2.word = "abort") := by
  unfold takeM
  by_cases c : (σ.ov x.who).isSome = true
  · rw [if_pos c]; exact .inl rfl
  · rw [if_neg c]
    cases x with
    | com s =>
      refine .inr (.inr (.inl ⟨s, rfl, ?_⟩))
      by_cases c2 : waitsOf σ s ≠ []
      · dsimp only; rw [if_pos c2]; exact .inl rfl
      · dsimp only; rw [if_neg c2]; exact .inr rfl
    | abo s => exact .inr (.inr (.inr ⟨s, rfl, rfl⟩))
    | req k s n => exact .inr (.inl ⟨k, s, n, rfl, req_word w hf (hk k s n rfl) hw, fun h => req_rval hf (hk k s n rfl) h⟩)
theorem nostop {x : Stp} {o : Out} (h : stopB x o = false) : o.word ≠ "void" ∧ o.word ≠ "wait" ∧ (o.word = "abort" → kindX x = "abort") := by
  unfold stopB at h
  rw [Bool.or_eq_false_iff, Bool.or_eq_false_iff, decide_eq_false_iff_not, decide_eq_false_iff_not] at h
  obtain ⟨h1, h2, h3⟩ := h
  refine ⟨h1, h2, fun c => ?_⟩
  rw [decide_eq_true c, Bool.true_and] at h3
  simpa using h3
theorem stop_kind {x : Stp} {o : Out} (h : stopB x o = true) (a : o.word = "abort") : kindX x ≠ "abort" := fun k => by
  unfold stopB at h
  have z : ("abort" : Str) ≠ "void" ∧ ("abort" : Str) ≠ "wait" := by decide +kernel
  rw [a, decide_eq_false z.1, decide_eq_false z.2, decide_eq_true k] at h
  simp at h
abbrev kB (a b c d : Bool) : List V := [.bl a, .bl b, .bl c, .bl d]
theorem kB_ok {a b c d : Bool} : (kB a b c d).all EX.dOk = true := rfl
theorem kB_eq {a b c d a' b' c' d' : Bool} : PyData.eqv (.list ((kB a b c d).map EX.dv)) (.list ((kB a' b' c' d').map EX.dv)) = (decide (a = a') && (decide (b = b') && (decide (c = c') && decide (d = d')))) := by
  cases a <;> cases b <;> cases c <;> cases d <;> cases a' <;> cases b' <;> cases c' <;> cases d' <;> rfl
def spAskedT (CT CD CB CS CI : Addr) : Sp := fun vs H Q _ => ∃ (U : List Int) (N : List Str) (B : Bkm) (ex : List Addr) (a : Addr) (y : DkA) (σ : MIR.S) (G : List Int) (g : Int) (p st : Addr) (z : Int) (x : Stp), vs = [.ref p, .ref st, .int z] ∧ TrnAt CT H p a x.who ∧ StpAt H st x ∧
  DkPre CD CB CS CI U N B ex H a y σ G g ∧ WFS U σ ∧ StpOk U N (.int z) z x ∧ NumOk x.who ∧
  ∀ (H' : Hp) (q : Addr), (∀ b o, b ≠ a → H b = some o → H' b = some o) → DkAt CD CB CS CI U N B ex H' a y (takeM B σ x z).1 G g [] → AskedAt H' q x (takeM B σ x z).2 → Q (.ref q) H'
theorem ok_lasked : FnOk PP w K mg base CX0 15 T.f_law_asked T.d_law_asked ["_law_person", "_law_step", "_law_value"] (spAskedT T.c_Transaction T.c_Desk T.c_Book T.c_State T.c_Item) := by
  refine T.F_law_asked.ok sc_law_asked (fun vs H Q E h => ?_) (fun cdv A outer s H vs Q E hr h => ?_)
  · obtain ⟨U, N, B, ex, a, y, σ, G, g, p, st, z, x, rfl, _⟩ := h
    rfl
  · obtain ⟨U, N, B, ex, a, y, σ, G, g, p, st, z, x, rfl, hp, hst, P, w, hx, hno, kk⟩ := h
    refine ⟨_, pss_cons (ps_try_as (i := 4) (Wout := fun _ _ _ _ => False) rfl rfl sc_law_asked.nd rfl rfl ⟨rfl, by decide, Or.inl T.g_StampError⟩ takes0
        (fun W pn xe tk _ => pss_cons (ps_if (pt_cmpR (r := rEq) op_eq (pe_ix (r := rIxT K) ix_tup (pv 1) pe_int (fun _ _ => rfl)) pe_str (nomark _)) (pss_one (ps_ret (pe_lst (pa_cons pe_str (pa_cons (MK.pe_methES (pv 0) T.cl_Transaction T.mi_Transaction_read (ownF (ok_Reader_read T) (b_Reader_read T)) (hr.mono (by decide)) (fun σ => passAt tk σ) (pa_cons (pe_ix (r := rIxT K) ix_tup (pv 1) pe_int (fun _ _ => rfl)) pa_nil)) pa_nil))))) pss_nil)
          (pss_cons (ps_if (pt_cmpR (r := rEq) op_eq (pe_ix (r := rIxT K) ix_tup (pv 1) pe_int (fun _ _ => rfl)) pe_str (nomark _))
            (pss_cons (ps_set (i := 3) sc_law_asked.nd rfl (.inl rfl) (MK.pe_methES (pv 0) T.cl_Transaction T.mi_Transaction_write (ownF (ok_Writer_write T) (b_Writer_write T)) (hr.mono (by decide)) (fun σ => passAt tk σ) (pa_cons (pe_ix (r := rIxT K) ix_tup (pv 1) pe_int (fun _ _ => rfl)) (pa_cons (pv 2) pa_nil))))
              (pss_one (ps_ret (pe_lst (pa_cons (pe_ix (r := rIxL K) ix_list (pe_lst (pa_cons pe_str (pa_cons pe_str pa_nil))) (pe_callTy call_int1 (by rfl) T.n_int (by decide +kernel) (pa_cons (pv 3) pa_nil)) (fun _ _ => rfl)) (pa_cons (pe_callB (id := "isinstance") (r := rIsi K) call_isi (by rfl) T.n_isinstance (by decide +kernel) (pa_cons (pv 3) (pa_cons (pe_bltn (v := .ty "bool") (by rfl) T.n_bool (by decide +kernel) rfl) pa_nil))) pa_nil)))))) pss_nil)
          (pss_cons (ps_if (pt_cmpR (r := rEq) op_eq (pe_ix (r := rIxT K) ix_tup (pv 1) pe_int (fun _ _ => rfl)) pe_str (nomark _)) (pss_one (ps_ret (pe_lst (pa_cons pe_str (pa_cons (pe_cmpR op_isN (MK.pe_methES0 (pv 0) T.cl_Transaction T.m_Transaction_commit (ownF (ok_commitX T) (b_Transaction_commit T)) (hr.mono (by decide)) (fun σ => passAt tk σ)) pe_non (nomark _)) pa_nil))))) pss_nil)
          (pss_one (ps_ret (pe_lst (pa_cons pe_str (pa_cons (pe_cmpR op_isN (MK.pe_methES0 (pv 0) T.cl_Transaction T.m_Transaction_abort (ownF (ok_abortX T) (b_Transaction_abort T)) (hr.mono (by decide)) (fun σ => passAt tk σ)) pe_non (nomark _)) pa_nil))))))))
        (fun oa oe cls d pn hz hf => pss_cons (ps_set (i := 5) sc_law_asked.nd rfl (.inl rfl) (pe_lst
            (pa_cons (pe_callB (id := "isinstance") (r := fun xs H Q => rIsD K T.c_MustWait oa cls d xs H Q ∨ (rIsD K T.c_BrokenOff oa cls d xs H Q ∨ rIsD K T.c_Finished oa cls d xs H Q)) (call_or3 (call_isD T.excc_MustWait hz hf) (call_or3 (call_isD T.excc_BrokenOff hz hf) (call_isD T.excc_Finished hz hf))) (by rfl) T.n_isinstance (by decide +kernel) (pa_cons (pv 4) (pa_cons (pe_glob (v := .ref T.c_MustWait) (by rfl) T.g_MustWait rfl) pa_nil)))
            (pa_cons (pe_callB (id := "isinstance") (r := fun xs H Q => rIsD K T.c_MustWait oa cls d xs H Q ∨ (rIsD K T.c_BrokenOff oa cls d xs H Q ∨ rIsD K T.c_Finished oa cls d xs H Q)) (call_or3 (call_isD T.excc_MustWait hz hf) (call_or3 (call_isD T.excc_BrokenOff hz hf) (call_isD T.excc_Finished hz hf))) (by rfl) T.n_isinstance (by decide +kernel) (pa_cons (pv 4) (pa_cons (pe_glob (v := .ref T.c_BrokenOff) (by rfl) T.g_BrokenOff rfl) pa_nil)))
            (pa_cons (pe_callB (id := "isinstance") (r := fun xs H Q => rIsD K T.c_MustWait oa cls d xs H Q ∨ (rIsD K T.c_BrokenOff oa cls d xs H Q ∨ rIsD K T.c_Finished oa cls d xs H Q)) (call_or3 (call_isD T.excc_MustWait hz hf) (call_or3 (call_isD T.excc_BrokenOff hz hf) (call_isD T.excc_Finished hz hf))) (by rfl) T.n_isinstance (by decide +kernel) (pa_cons (pv 4) (pa_cons (pe_glob (v := .ref T.c_Finished) (by rfl) T.g_Finished rfl) pa_nil)))
            (pa_cons (pe_callB (id := "isinstance") (r := fun xs H Q => rIsD K T.c_MustWait oa cls d xs H Q ∨ (rIsD K T.c_BrokenOff oa cls d xs H Q ∨ rIsD K T.c_Finished oa cls d xs H Q)) (call_or3 (call_isD T.excc_MustWait hz hf) (call_or3 (call_isD T.excc_BrokenOff hz hf) (call_isD T.excc_Finished hz hf))) (by rfl) T.n_isinstance (by decide +kernel) (pa_cons (pv 4) (pa_cons (pe_glob (v := .ref T.c_TooLate) (by rfl) T.g_TooLate rfl) pa_nil))) pa_nil))))))
          (pss_cons (ps_if (PW.pt (pw_and (pt_cmpR (r := rEqD K) (op_eqD hr.units) (pv 5) (pe_lst (pa_cons pe_bl (pa_cons pe_bl (pa_cons pe_bl (pa_cons pe_bl pa_nil))))) (nomark _)) (pw_and1 (pt_cmpR (r := rEq) op_eq (pe_xf T.xfc_MustWait T.na_MustWait_stamp hz hf (pv 4)) (pe_ix (r := rIxT K) ix_tup (pv 1) pe_int (fun _ _ => rfl)) (nomark _))))) (pss_one (ps_ret (pe_lst (pa_cons pe_str (pa_cons (pe_xf T.xfc_MustWait T.na_MustWait_holders hz hf (pv 4)) pa_nil))))) pss_nil)
          (pss_cons (ps_if (PW.pt (pw_and (pt_cmpR (r := rEqD K) (op_eqD hr.units) (pv 5) (pe_lst (pa_cons pe_bl (pa_cons pe_bl (pa_cons pe_bl (pa_cons pe_bl pa_nil))))) (nomark _)) (pw_and1 (pt_cmpR (r := rEq) op_eq (pe_xf T.xfc_BrokenOff T.na_BrokenOff_stamp hz hf (pv 4)) (pe_ix (r := rIxT K) ix_tup (pv 1) pe_int (fun _ _ => rfl)) (nomark _))))) (pss_one (ps_ret (pe_lst (pa_cons pe_str (pa_cons pe_bl pa_nil))))) pss_nil)
          (pss_one (ps_if (PW.pt (pw_and (pt_cmpR (r := rEqD K) (op_eqD hr.units) (pv 5) (pe_lst (pa_cons pe_bl (pa_cons pe_bl (pa_cons pe_bl (pa_cons pe_bl pa_nil))))) (nomark _)) (pw_and1 (pt_cmpR (r := rEq) op_eq (pe_xf T.xfc_Finished T.na_Finished_stamp hz hf (pv 4)) (pe_ix (r := rIxT K) ix_tup (pv 1) pe_int (fun _ _ => rfl)) (nomark _))))) (pss_one (ps_ret (pe_lst (pa_cons pe_str (pa_cons pe_bl pa_nil))))) pss_nil))))))
      (pss_one (ps_ret (pe_lst (pa_cons pe_str (pa_cons pe_bl pa_nil))))), ?_⟩
    have two : 2 ≤ sizeLine := by decide
    have i0 : ∀ (u : V) (r : List V), atI (u :: r) 0 = some u := fun u r => atI_nat (by rfl)
    have i1 : ∀ (u u2 : V) (r : List V), atI (u :: u2 :: r) 1 = some u2 := fun u u2 r => atI_nat (by rfl)
    have i2 : ∀ (u u2 u3 : V) (r : List V), atI (u :: u2 :: u3 :: r) 2 = some u3 := fun u u2 u3 r => atI_nat (by rfl)
    have stk : ∀ {H' : Hp}, (∀ b o, b ≠ a → H b = some o → H' b = some o) → StpAt H' st x := fun {H'} km => by
      obtain ⟨l, hl⟩ := stp_tup hst
      obtain ⟨p0, ha, _⟩ := P.dk.st
      have n : st ≠ a := fun e => by rw [e, ha] at hl; cases hl
      cases x with
      | req k s n' => exact km _ _ n hst
      | com s => exact km _ _ n hst
      | abo s => exact km _ _ n hst
    have lit : ("read" : Str) ≠ "write" ∧ ("write" : Str) ≠ "read" ∧ ("commit" : Str) ≠ "read" ∧ ("commit" : Str) ≠ "write" ∧ ("abort" : Str) ≠ "read" ∧ ("abort" : Str) ≠ "write" ∧ ("abort" : Str) ≠ "commit" := by decide +kernel
    obtain ⟨l1, l2, l3, l4, l5, l6, l7⟩ := lit
    have hx4 : (∃ s' nm, x = .req "read" s' nm) ∨ (∃ s' nm, x = .req "write" s' nm) ∨ (∃ s', x = .com s') ∨ (∃ s', x = .abo s') := by
      cases x with
      | req k s' nm =>
        have hk := hx.2.2.1
        have : k = "read" ∨ k = "write" := by simpa [KINDS] using hk
        rcases this with rfl | rfl
        · exact .inl ⟨_, _, rfl⟩
        · exact .inr (.inl ⟨_, _, rfl⟩)
      | com s' => exact .inr (.inr (.inl ⟨_, rfl⟩))
      | abo s' => exact .inr (.inr (.inr ⟨_, rfl⟩))
    have stk2 : ∀ {H' : Hp}, (∀ b o, b ≠ a → H b = some o → H' b = some o) → ∃ r2, H' st = some (.tup (.str (kindX x) :: .int x.who :: r2)) := fun {H'} km => by
      have := stk km
      cases x with
      | req k s n' => exact ⟨_, this⟩
      | com s => exact ⟨_, this⟩
      | abo s => exact ⟨_, this⟩
    have four : 4 ≤ sizeLine := by decide
    have sk : ("stamp" == ("holders" : Str)) = false := by decide +kernel
    have wl : ("void" : Str) ≠ "abort" ∧ ("wait" : Str) ≠ "abort" ∧ ("void" : Str) ≠ "wait" ∧ ("void" : Str) ≠ "read" ∧ ("wait" : Str) ≠ "read" ∧ ("abort" : Str) ≠ "wait" ∧ ("abort" : Str) ≠ "read" := by decide +kernel
    obtain ⟨v1, v2, v3, v4, v5, v6, v7⟩ := wl
    rcases hx4 with ⟨s', nm, rfl⟩ | ⟨s', nm, rfl⟩ | ⟨s', rfl⟩ | ⟨s', rfl⟩
    case' inl =>
      have hst' : H st = some (.tup [.str "read", .int s', .str nm]) := hst
      have hp' := hp
      obtain ⟨dx, sp, lf, hpp⟩ := hp
      refine ⟨_, rfl, st, _, _, .str "read", rfl, rfl, SqT.of hst', i0 _ _, rfl, _, rfl, ?_⟩
      rw [ds, decide_eq_true rfl]
      refine iteT ⟨_, rfl, p, dx, _, rfl, hpp, (by kernel_rfl), _, rfl, st, _, _, .str nm, rfl, rfl, SqT.of hst', i2 _ _ _ _, U, N, B, ex, a, y, σ, G, g, p, s', z, nm, rfl, hp', P, hx.1, hx.2.1, hno, fun sb H' v km D' hv => ?_, ?_⟩
      · obtain ⟨w1, w2, w3⟩ := nostop sb
        have hkd : ∀ k s n, Stp.req "read" s' nm = .req k s n → k ∈ KINDS := fun k s n e => by cases e; exact hx.2.2.1
        obtain ⟨wr, i, hi⟩ : (takeM B σ (.req "read" s' nm) z).2.word = "read" ∧ ∃ i, (takeM B σ (.req "read" s' nm) z).2.val = .int i := by
          rcases take_words w P.hf (z := z) hkd hx.1 with h | ⟨k, s, n, e, h, hv⟩ | ⟨s, e, _⟩ | ⟨s, e, _⟩
          · exact absurd h w1
          · cases e
            rcases h with h | h | ⟨_, h⟩ | ⟨h, _⟩
            · exact absurd h w2
            · exact absurd (w3 h) (by show ("read" : Str) ≠ "abort"; exact l5.symm)
            · exact ⟨h, hv h⟩
            · exact absurd rfl h
          · cases e
          · cases e
        refine ⟨two, fun q nq => ?_⟩
        refine kk _ q (fun b o n z' => same_new (Same.refl H') nq _ _ (km b o n z')) (D'.same (same_new (Same.refl H') nq)) ⟨v, ?_, fun e => absurd e w2, fun _ => ⟨i, hi, ?_⟩, fun _ n => absurd wr n⟩
        · rw [upd_same]
          unfold wordA
          rw [if_neg (fun c => (w3 c.1 |> c.2)), wr]
        · rw [hi] at hv; exact hv
    case' inr.inl =>
      have hst' : H st = some (.tup [.str "write", .int s', .str nm]) := hst
      have hp' := hp
      obtain ⟨dx, sp, lf, hpp⟩ := hp
      refine ⟨_, rfl, st, _, _, .str "write", rfl, rfl, SqT.of hst', i0 _ _, rfl, _, rfl, ?_⟩
      rw [ds, decide_eq_false l2]
      refine iteF ⟨_, rfl, st, _, _, .str "write", rfl, rfl, SqT.of hst', i0 _ _, rfl, _, rfl, ?_⟩
      rw [ds, decide_eq_true rfl]
      refine iteT ⟨_, rfl, p, dx, _, rfl, hpp, (by kernel_rfl), _, rfl, st, _, _, .str nm, rfl, rfl, SqT.of hst', i2 _ _ _ _, _, rfl, U, N, B, ex, a, y, σ, G, g, p, s', z, nm, rfl, hp', P, hx.1, hx.2.1, hno, fun sb H' km D' => ?_, ?_⟩
      · obtain ⟨w1, w2, w3⟩ := nostop sb
        have hkd : ∀ k s n, Stp.req "write" s' nm = .req k s n → k ∈ KINDS := fun k s n e => by cases e; exact hx.2.2.1
        have wr : (takeM B σ (.req "write" s' nm) z).2.word = "skip" ∨ (takeM B σ (.req "write" s' nm) z).2.word = "put" := by
          rcases take_words w P.hf (z := z) hkd hx.1 with h | ⟨k, s, n, e, h, hv⟩ | ⟨s, e, _⟩ | ⟨s, e, _⟩
          · exact absurd h w1
          · cases e
            rcases h with h | h | ⟨h, _⟩ | ⟨_, h⟩
            · exact absurd h w2
            · exact absurd (w3 h) (by show ("write" : Str) ≠ "abort"; exact l6.symm)
            · exact absurd h l2
            · exact h
          · cases e
          · cases e
        have wa : wordA (.req "write" s' nm) (takeM B σ (.req "write" s' nm) z).2 = (takeM B σ (.req "write" s' nm) z).2.word := by unfold wordA; rw [if_neg (fun c => (w3 c.1 |> c.2))]
        have nr : (takeM B σ (.req "write" s' nm) z).2.word ≠ "read" := by
          have : ("skip" : Str) ≠ "read" ∧ ("put" : Str) ≠ "read" := by decide +kernel
          rcases wr with e | e <;> rw [e]
          · exact this.1
          · exact this.2
        refine ⟨two, fun Wl nW => ⟨_, rfl, .inr ⟨_, rfl, Wl, _, _, .str (takeM B σ (.req "write" s' nm) z).2.word, rfl, rfl, SqL.of upd_same, ?_, _, rfl, _, _, _, _, true, rfl, ClsV.ty _, .base (.bl _), kit_ty (by decide +kernel), two, fun q nq => ?_⟩⟩⟩
        · have sp : ("skip" : Str) ≠ "put" := by decide +kernel
          rcases wr with e | e
          · rw [e, decide_eq_false sp]; rfl
          · rw [e, decide_eq_true rfl]; rfl
        · have y1 := same_new (o := .lst [.str "skip", .str "put"]) (Same.refl H') nW
          have y2 := same_new (o := .lst [.str (takeM B σ (.req "write" s' nm) z).2.word, .bl true]) y1 nq
          exact kk _ q (fun b o n z' => y2 _ _ (km b o n z')) (D'.same y2) ⟨.bl true, by rw [upd_same, wa], fun e => absurd e w2, fun e => absurd e nr, fun _ _ => rfl⟩
    case' inr.inr.inl =>
      have hst' : H st = some (.tup [.str "commit", .int s']) := hst
      have hp' := hp
      obtain ⟨dx, sp, lf, hpp⟩ := hp
      refine ⟨_, rfl, st, _, _, .str "commit", rfl, rfl, SqT.of hst', i0 _ _, rfl, _, rfl, ?_⟩
      rw [ds, decide_eq_false l3]
      refine iteF ⟨_, rfl, st, _, _, .str "commit", rfl, rfl, SqT.of hst', i0 _ _, rfl, _, rfl, ?_⟩
      rw [ds, decide_eq_false l4]
      refine iteF ⟨_, rfl, st, _, _, .str "commit", rfl, rfl, SqT.of hst', i0 _ _, rfl, _, rfl, ?_⟩
      rw [ds, decide_eq_true rfl]
      refine iteT ⟨_, rfl, p, dx, _, rfl, hpp, (by kernel_rfl), U, N, B, ex, a, y, σ, G, g, p, s', z, rfl, hp', P, hx, hno, fun sb H' km D' => ?_, ?_⟩
      · obtain ⟨w1, w2, w3⟩ := nostop sb
        have wr : (takeM B σ (.com s') z).2.word = "commit" := by
          rcases take_words w P.hf (z := z) (x := .com s') (fun k s n e => by cases e) hx with h | ⟨k, s, n, e, _⟩ | ⟨s, e, h | h⟩ | ⟨s, e, _⟩
          · exact absurd h w1
          · cases e
          · exact absurd h w2
          · exact h
          · cases e
        have cw : ("commit" : Str) ≠ "abort" ∧ ("commit" : Str) ≠ "read" := by decide +kernel
        refine ⟨rfl, two, fun q nq => ?_⟩
        have y2 := same_new (o := .lst [.str "commit", .bl (decide (V.non = V.non))]) (Same.refl H') nq
        exact kk _ q (fun b o n z' => y2 _ _ (km b o n z')) (D'.same y2) ⟨.bl true, by rw [upd_same]; unfold wordA; rw [wr, if_neg (fun c => cw.1 c.1)]; rfl, fun e => absurd e w2, fun e => absurd (wr.symm.trans e) cw.2, fun _ _ => rfl⟩
    case' inr.inr.inr =>
      have hst' : H st = some (.tup [.str "abort", .int s']) := hst
      have hp' := hp
      obtain ⟨dx, sp, lf, hpp⟩ := hp
      refine ⟨_, rfl, st, _, _, .str "abort", rfl, rfl, SqT.of hst', i0 _ _, rfl, _, rfl, ?_⟩
      rw [ds, decide_eq_false l5]
      refine iteF ⟨_, rfl, st, _, _, .str "abort", rfl, rfl, SqT.of hst', i0 _ _, rfl, _, rfl, ?_⟩
      rw [ds, decide_eq_false l6]
      refine iteF ⟨_, rfl, st, _, _, .str "abort", rfl, rfl, SqT.of hst', i0 _ _, rfl, _, rfl, ?_⟩
      rw [ds, decide_eq_false l7]
      refine iteF ⟨_, rfl, p, dx, _, rfl, hpp, (by kernel_rfl), U, N, B, ex, a, y, σ, G, g, p, s', z, rfl, hp', P, hx, hno, fun sb H' km D' => ?_, ?_⟩
      · obtain ⟨w1, w2, w3⟩ := nostop sb
        have wr : (takeM B σ (.abo s') z).2.word = "abort" := by
          rcases take_words w P.hf (z := z) (x := .abo s') (fun k s n e => by cases e) hx with h | ⟨k, s, n, e, _⟩ | ⟨s, e, _⟩ | ⟨s, e, h⟩
          · exact absurd h w1
          · cases e
          · cases e
          · exact h
        have cw : ("abort" : Str) ≠ "read" := by decide +kernel
        refine ⟨rfl, two, fun q nq => ?_⟩
        have y2 := same_new (o := .lst [.str "abort", .bl (decide (V.non = V.non))]) (Same.refl H') nq
        exact kk _ q (fun b o n z' => y2 _ _ (km b o n z')) (D'.same y2) ⟨.bl true, by rw [upd_same]; unfold wordA; rw [wr, if_neg (fun c => c.2 rfl)]; rfl, fun e => absurd e w2, fun e => absurd (wr.symm.trans e) cw, fun _ _ => rfl⟩
    all_goals
      intro sb H' d C fs km D' hd hw
      have lkS : ∀ n : Int, ([(("stamp" : Str), V.int n)] : List (Str × V)).lookup ("stamp" : Str) = some (V.int n) := fun n => by simp [List.lookup]
      have lkH : ∀ (n : Int) (v : V), ([(("holders" : Str), v), (("stamp" : Str), V.int n)] : List (Str × V)).lookup ("holders" : Str) = some v := fun n v => by simp [List.lookup]
      have lkW : ∀ (n : Int) (v : V), ([(("holders" : Str), v), (("stamp" : Str), V.int n)] : List (Str × V)).lookup ("stamp" : Str) = some (V.int n) := fun n v => by simp [List.lookup, sk]
      have scI : ∀ n m : Int, scal (V.int n) (V.int m) = true := fun _ _ => rfl
      obtain ⟨r2, hs2⟩ := stk2 km
      rcases hw with ⟨e1, rfl, rfl⟩ | ⟨e1, rfl, ⟨hq, l, rfl, hl, hh⟩⟩ | ⟨e1, rfl, rfl⟩
      · refine ⟨true, T.exm_Finished_StampError, fun _ a' ha' => ?_, fun z => by cases z⟩
        refine ⟨_, rfl, .inr (.inr ⟨_, _, false, d, _, rfl, rfl, rfl, ClsV.own _, T.kit_Finished_MustWait, hd, _, rfl, .inr (.inr ⟨_, _, false, d, _, rfl, rfl, rfl, ClsV.own _, T.kit_Finished_BrokenOff, hd, _, rfl, .inr (.inr ⟨_, _, true, d, _, rfl, rfl, rfl, ClsV.own _, T.kit_Finished_Finished, hd, _, rfl, .inr (.inr ⟨_, _, false, d, _, rfl, rfl, rfl, ClsV.own _, T.kit_Finished_TooLate, hd, four, fun q1 n1 => ?_⟩)⟩)⟩)⟩)⟩
        have y1 := same_new (o := .lst (kB false false true false)) (Same.refl H') n1
        have g1 : (upd H' q1 (.lst (kB false false true false))) q1 = some (.lst (kB false false true false)) := upd_same
        generalize upd H' q1 (.lst (kB false false true false)) = J1 at y1 g1 ⊢
        refine ⟨_, rfl, four, fun p1 m1 => ⟨_, _, EX.dp_list (SqL.of (kp m1 g1)) kB_ok, EX.dp_list (SqL.of upd_same) kB_ok, EX.dv_shaped (xs := kB false false true false) kB_ok, EX.dv_shaped (xs := kB true false false false) kB_ok, _, rfl, ?_⟩⟩
        rw [kB_eq]
        have y2 := same_new (o := .lst (kB true false false false)) y1 m1
        have g2 : (upd J1 p1 (.lst (kB true false false false))) q1 = some (.lst (kB false false true false)) := kp m1 g1
        generalize upd J1 p1 (.lst (kB true false false false)) = J2 at y2 g2 ⊢
        refine iteF ⟨_, rfl, four, fun p2 m2 => ⟨_, _, EX.dp_list (SqL.of (kp m2 g2)) kB_ok, EX.dp_list (SqL.of upd_same) kB_ok, EX.dv_shaped (xs := kB false false true false) kB_ok, EX.dv_shaped (xs := kB false true false false) kB_ok, _, rfl, ?_⟩⟩
        rw [kB_eq]
        have y3 := same_new (o := .lst (kB false true false false)) y2 m2
        have g3 : (upd J2 p2 (.lst (kB false true false false))) q1 = some (.lst (kB false false true false)) := kp m2 g2
        generalize upd J2 p2 (.lst (kB false true false false)) = J3 at y3 g3 ⊢
        refine iteF ⟨_, rfl, four, fun p3 m3 => ⟨_, _, EX.dp_list (SqL.of (kp m3 g3)) kB_ok, EX.dp_list (SqL.of upd_same) kB_ok, EX.dv_shaped (xs := kB false false true false) kB_ok, EX.dv_shaped (xs := kB false false true false) kB_ok, _, rfl, ?_⟩⟩
        rw [kB_eq]
        have y4 := same_new (o := .lst (kB false false true false)) y3 m3
        have g4 : (upd J3 p3 (.lst (kB false false true false))) q1 = some (.lst (kB false false true false)) := kp m3 g3
        generalize upd J3 p3 (.lst (kB false false true false)) = J4 at y4 g4 ⊢
        refine iteT ⟨_, rfl, rfl, rfl, d, _, _, rfl, y4 _ _ hd, lkS _, _, rfl, st, _, _, .int _, rfl, rfl, SqT.of (y4 _ _ hs2), i1 _ _ _, scI _ _, _, rfl, ?_⟩
        rw [decide_eq_true rfl]
        refine iteT ⟨two, fun q nq => ?_⟩
        have z2 := same_new (o := .lst [.str "void", .bl true]) y4 nq
        exact kk _ q (fun b o n z' => z2 _ _ (km b o n z')) (D'.same z2) ⟨.bl true, by rw [upd_same]; unfold wordA; rw [if_neg (fun c => v1 (e1.symm.trans c.1)), e1], fun e => absurd (e1.symm.trans e) v3, fun e => absurd (e1.symm.trans e) v4, fun _ _ => rfl⟩
      · refine ⟨true, T.exm_MustWait_StampError, fun _ a' ha' => ?_, fun z => by cases z⟩
        refine ⟨_, rfl, .inl ⟨_, _, true, d, _, rfl, rfl, rfl, ClsV.own _, T.kit_MustWait_MustWait, hd, _, rfl, .inl ⟨_, _, false, d, _, rfl, rfl, rfl, ClsV.own _, T.kit_MustWait_BrokenOff, hd, _, rfl, .inl ⟨_, _, false, d, _, rfl, rfl, rfl, ClsV.own _, T.kit_MustWait_Finished, hd, _, rfl, .inl ⟨_, _, false, d, _, rfl, rfl, rfl, ClsV.own _, T.kit_MustWait_TooLate, hd, four, fun q1 n1 => ?_⟩⟩⟩⟩⟩
        have y1 := same_new (o := .lst (kB true false false false)) (Same.refl H') n1
        have g1 : (upd H' q1 (.lst (kB true false false false))) q1 = some (.lst (kB true false false false)) := upd_same
        generalize upd H' q1 (.lst (kB true false false false)) = J1 at y1 g1 ⊢
        refine ⟨_, rfl, four, fun p1 m1 => ⟨_, _, EX.dp_list (SqL.of (kp m1 g1)) kB_ok, EX.dp_list (SqL.of upd_same) kB_ok, EX.dv_shaped (xs := kB true false false false) kB_ok, EX.dv_shaped (xs := kB true false false false) kB_ok, _, rfl, ?_⟩⟩
        rw [kB_eq]
        have y2 := same_new (o := .lst (kB true false false false)) y1 m1
        have g2 : (upd J1 p1 (.lst (kB true false false false))) q1 = some (.lst (kB true false false false)) := kp m1 g1
        generalize upd J1 p1 (.lst (kB true false false false)) = J2 at y2 g2 ⊢
        refine iteT ⟨_, rfl, rfl, rfl, d, _, _, rfl, y2 _ _ hd, lkW _ _, _, rfl, st, _, _, .int _, rfl, rfl, SqT.of (y2 _ _ hs2), i1 _ _ _, scI _ _, _, rfl, ?_⟩
        rw [decide_eq_true rfl]
        refine iteT ⟨_, rfl, rfl, rfl, d, _, _, rfl, y2 _ _ hd, lkH _ _, two, fun q nq => ?_⟩
        have z2 := same_new (o := .lst [.str "wait", .ref hq]) y2 nq
        exact kk _ q (fun b o n z' => z2 _ _ (km b o n z')) (D'.same z2) ⟨.ref hq, by rw [upd_same]; unfold wordA; rw [if_neg (fun c => v2 (e1.symm.trans c.1)), e1], fun _ => ⟨hq, l, hl, rfl, z2 _ _ hh⟩, fun e => absurd (e1.symm.trans e) v5, fun n _ => absurd e1 n⟩
      · refine ⟨true, T.exm_BrokenOff_StampError, fun _ a' ha' => ?_, fun z => by cases z⟩
        refine ⟨_, rfl, .inr (.inl ⟨_, _, false, d, _, rfl, rfl, rfl, ClsV.own _, T.kit_BrokenOff_MustWait, hd, _, rfl, .inr (.inl ⟨_, _, true, d, _, rfl, rfl, rfl, ClsV.own _, T.kit_BrokenOff_BrokenOff, hd, _, rfl, .inr (.inl ⟨_, _, false, d, _, rfl, rfl, rfl, ClsV.own _, T.kit_BrokenOff_Finished, hd, _, rfl, .inr (.inl ⟨_, _, false, d, _, rfl, rfl, rfl, ClsV.own _, T.kit_BrokenOff_TooLate, hd, four, fun q1 n1 => ?_⟩)⟩)⟩)⟩)⟩
        have y1 := same_new (o := .lst (kB false true false false)) (Same.refl H') n1
        have g1 : (upd H' q1 (.lst (kB false true false false))) q1 = some (.lst (kB false true false false)) := upd_same
        generalize upd H' q1 (.lst (kB false true false false)) = J1 at y1 g1 ⊢
        refine ⟨_, rfl, four, fun p1 m1 => ⟨_, _, EX.dp_list (SqL.of (kp m1 g1)) kB_ok, EX.dp_list (SqL.of upd_same) kB_ok, EX.dv_shaped (xs := kB false true false false) kB_ok, EX.dv_shaped (xs := kB true false false false) kB_ok, _, rfl, ?_⟩⟩
        rw [kB_eq]
        have y2 := same_new (o := .lst (kB true false false false)) y1 m1
        have g2 : (upd J1 p1 (.lst (kB true false false false))) q1 = some (.lst (kB false true false false)) := kp m1 g1
        generalize upd J1 p1 (.lst (kB true false false false)) = J2 at y2 g2 ⊢
        refine iteF ⟨_, rfl, four, fun p2 m2 => ⟨_, _, EX.dp_list (SqL.of (kp m2 g2)) kB_ok, EX.dp_list (SqL.of upd_same) kB_ok, EX.dv_shaped (xs := kB false true false false) kB_ok, EX.dv_shaped (xs := kB false true false false) kB_ok, _, rfl, ?_⟩⟩
        rw [kB_eq]
        have y3 := same_new (o := .lst (kB false true false false)) y2 m2
        have g3 : (upd J2 p2 (.lst (kB false true false false))) q1 = some (.lst (kB false true false false)) := kp m2 g2
        generalize upd J2 p2 (.lst (kB false true false false)) = J3 at y3 g3 ⊢
        refine iteT ⟨_, rfl, rfl, rfl, d, _, _, rfl, y3 _ _ hd, lkS _, _, rfl, st, _, _, .int _, rfl, rfl, SqT.of (y3 _ _ hs2), i1 _ _ _, scI _ _, _, rfl, ?_⟩
        rw [decide_eq_true rfl]
        refine iteT ⟨two, fun q nq => ?_⟩
        have z2 := same_new (o := .lst [.str "broken", .bl true]) y3 nq
        exact kk _ q (fun b o n z' => z2 _ _ (km b o n z')) (D'.same z2) ⟨.bl true, by rw [upd_same]; unfold wordA; rw [if_pos ⟨e1, stop_kind sb e1⟩], fun e => absurd (e1.symm.trans e) v6, fun e => absurd (e1.symm.trans e) v7, fun _ _ => rfl⟩
end
end K16

namespace K16
open PySem L2 SI CM BK OWN
section
variable {w : World} {K : PySem.W.Frag} {mg : Str → Option Value} {base : Heap} (T : Txt w K mg)
def spCell (K : PySem.W.Frag) : Sp := fun vs H Q _ => ∃ (a : Addr) (ns : List Int) (k : Nat), vs = [.ref a, .int (k : Int)] ∧ SqL K H a (ns.map V.int) ∧ ns.length ≤ 63 ∧ Q (.int (ns.getD k 0)) H
theorem ok_cell : FnOk PP w K mg base CX0 1 T.f_law_cell T.d_law_cell ["_law_script", "_law_k"] (spCell K) := by
  refine T.F_law_cell.ok sc_law_cell (fun vs H Q E h => ?_) (fun cdv A outer s H vs Q E hr h => ?_)
  · obtain ⟨a, ns, k, rfl, _⟩ := h
    rfl
  · obtain ⟨a, ns, i, rfl, hS, hlen, k⟩ := h
    refine ⟨_, pss_cons (ps_if (pt_cmpR op_lt (pv 1) (pe_callB call_len_seq (by rfl) T.n_len PySem.boot_len (pa_cons (pv 0) pa_nil)) (nomark _)) (pss_one (ps_ret (pe_ix ix_list (pv 0) (pv 1) (fun _ _ => rfl)))) pss_nil) (pss_one (ps_ret pe_int)), ?_⟩
    refine ⟨_, rfl, _, rfl, a, _, rfl, .inl hS, _, _, rfl, rfl, _, rfl, ?_⟩
    rw [List.length_map]
    by_cases h : (i : Int) < (ns.length : Int)
    · rw [decide_eq_true h]
      have hi : i < ns.length := by omega
      refine iteT ⟨_, rfl, _, rfl, a, _, _, .int (ns.getD i 0), rfl, rfl, hS, atI_nat (by rw [List.getElem?_map, List.getElem?_eq_getElem hi, List.getD_eq_getElem?_getD, List.getElem?_eq_getElem hi] <;> rfl), k⟩
    · rw [decide_eq_false h]
      have hi : ns.length ≤ i := by omega
      refine iteF ?_
      rw [List.getD_eq_getElem?_getD, List.getElem?_eq_none hi] at k
      exact k
/-- xs[i] of a list of ints -/
theorem ints_at {ds : List Int} {i : Nat} {x : V} (h : (ds.map V.int)[i]? = some x) : ∃ d, ds[i]? = some d ∧ x = V.int d := by
  rw [List.getElem?_map] at h
  cases q : ds[i]? with
  | none =>
    rw [q] at h
    cases h
  | some d =>
    rw [q] at h
    exact ⟨d, rfl, (Option.some.inj h).symm⟩
/-- the row's list, what is left of the cell, the mixed number -/
def rowS (c b : Int) : Nat → List Int × Int × Int
  | 0 => ([], c, (c * 48271 + 69621) % 2147483647)
  | i + 1 => if (10 : Int) ^ (18 : Int).toNat ≤ c then ((rowS c b i).1 ++ [(rowS c b i).2.1 % b], (rowS c b i).2.1 / b, (rowS c b i).2.2)
    else ((rowS c b i).1 ++ [((((rowS c b i).2.2 * 48271 + 11) % 2147483647 * 16807 + (i : Int)) % 2147483629 / 1009) % b], (rowS c b i).2.1, ((((rowS c b i).2.2 * 48271 + 11) % 2147483647) * 16807 + (i : Int)) % 2147483629)
def rowF (c : Int) (n : Nat) (b : Int) : List Int := (rowS c b n).1
theorem rowS_big {c b : Int} (i : Nat) (h : (10 : Int) ^ (18 : Int).toNat ≤ c) : rowS c b (i + 1) = ((rowS c b i).1 ++ [(rowS c b i).2.1 % b], (rowS c b i).2.1 / b, (rowS c b i).2.2) := if_pos h
theorem rowS_low {c b : Int} (i : Nat) (h : ¬ (10 : Int) ^ (18 : Int).toNat ≤ c) : rowS c b (i + 1) = ((rowS c b i).1 ++ [((((rowS c b i).2.2 * 48271 + 11) % 2147483647 * 16807 + (i : Int)) % 2147483629 / 1009) % b], (rowS c b i).2.1, ((((rowS c b i).2.2 * 48271 + 11) % 2147483647) * 16807 + (i : Int)) % 2147483629) := if_neg h
def spRowD : Sp := fun vs H Q _ => ∃ (c : Int) (n : Nat) (b : Int), vs = [.int c, .int (n : Int), .int b] ∧ 0 < b ∧ b < 1000 ∧ n ≤ 1000 ∧
  ∀ (H' : Hp) (p : Addr), Same H H' → H p = none → H' p = some (.lst ((rowF c n b).map V.int)) → (rowF c n b).length = n → (∀ d ∈ rowF c n b, 0 ≤ d ∧ d < b) → Q (.ref p) H'
def spRow : Sp := fun vs H Q _ => ∃ (c : Int) (n : Nat) (b : Int), vs = [.int c, .int (n : Int), .int b] ∧ 0 < b ∧ b < 1000 ∧ n ≤ 1000 ∧
  ∀ (H' : Hp) (p : Addr) (ds : List Int), Same H H' → H p = none → H' p = some (.lst (ds.map V.int)) → ds.length = n → (∀ d ∈ ds, 0 ≤ d ∧ d < b) → Q (.ref p) H'
theorem ok_rowD : FnOk PP w K mg base CX0 1 T.f_law_row T.d_law_row ["_law_cell_here", "_law_count", "_law_base"] spRowD := by
  refine T.F_law_row.ok sc_law_row (fun vs H Q E h => ?_) (fun cdv A outer s H vs Q E hr h => ?_)
  · obtain ⟨c, n, b, rfl, _⟩ := h
    rfl
  · obtain ⟨c, n, b, rfl, b0, b1, hn, k⟩ := h
    refine ⟨_, pss_cons (ps_set (i := 3) sc_law_row.nd rfl (.inl rfl) (pe_lst pa_nil))
 (pss_cons (ps_set (i := 4) sc_law_row.nd rfl (.inl rfl) (pv 0))
 (pss_cons (ps_set (i := 5) sc_law_row.nd rfl (.inl rfl) (pe_op op_mod (pe_callTy call_int1 (by rfl) T.n_int (by decide +kernel) (pa_cons (pe_op op_add (pe_op op_mul (pv 0) pe_int) pe_int) pa_nil)) pe_int))
 (pss_cons (ps_for PassesOwn.never rfl (pi_range1 rfl T.n_range (pa_cons (pv 1) pa_nil)) (pg_name (i := 6) sc_law_row.nd rfl (.inl rfl))
 (pss_one (ps_if (pt_cmpR op_ge (pv 0) (pe_op op_pow pe_int pe_int) (nomark _))
 (pss_cons (ps_expr (pe_bm PySem.F.plainAttrs_list PySem.F.slot_list_append PySem.F.type_list_append mt_append (pv 3) (pa_cons (pe_op op_mod (pe_callTy call_int1 (by rfl) T.n_int (by decide +kernel) (pa_cons (pv 4) pa_nil)) (pv 2)) pa_nil)))
 (pss_one (ps_set (i := 4) sc_law_row.nd rfl (.inl rfl) (pe_op op_fdiv (pv 4) (pv 2)))))
 (pss_cons (ps_set (i := 5) sc_law_row.nd rfl (.inl rfl) (pe_op op_mod (pe_callTy call_int1 (by rfl) T.n_int (by decide +kernel) (pa_cons (pe_op op_add (pe_op op_mul (pv 5) pe_int) pe_int) pa_nil)) pe_int))
 (pss_cons (ps_set (i := 5) sc_law_row.nd rfl (.inl rfl) (pe_op op_mod (pe_callTy call_int1 (by rfl) T.n_int (by decide +kernel) (pa_cons (pe_op op_add (pe_op op_mul (pv 5) pe_int) (pv 6)) pa_nil)) pe_int))
 (pss_one (ps_expr (pe_bm PySem.F.plainAttrs_list PySem.F.slot_list_append PySem.F.type_list_append mt_append (pv 3) (pa_cons (pe_op op_mod (pe_callTy call_int1 (by rfl) T.n_int (by decide +kernel) (pa_cons (pe_op op_fdiv (pv 5) pe_int) pa_nil)) (pv 2)) pa_nil)))))))))
 (pss_one (ps_ret (pv 3)))))), ?_⟩
    have m1 : (0 : Int) < 2147483647 := by decide
    have m2 : (0 : Int) < 2147483629 := by decide
    refine ⟨Nat.zero_le _, fun R nR => ⟨_, rfl, _, rfl, _, _, rfl, rfl, .inr ⟨by decide, by decide⟩, _, _, rfl, rfl, .inl ⟨_, rfl, _, _, rfl, rfl, m1, ?_⟩⟩⟩
    refine ⟨_, rfl, _, rfl, by omega, by omega, for_range (lo := 0) (n := n) (fun i σ H' => ∃ (ds : List Int) (v4 v5 : Int) (v6 : Option V), ds.length = i ∧ (∀ d ∈ ds, 0 ≤ d ∧ d < b) ∧ H' R = some (.lst (ds.map V.int)) ∧ Same H H' ∧ σ = [some (.int c), some (.int (n : Int)), some (.int b), some (.ref R), some (.int v4), some (.int v5), v6] ∧ (ds, v4, v5) = rowS c b i)
      ⟨[], c, _, _, rfl, (fun _ h => by cases h), upd_same, same_new (Same.refl H) nR, rfl, rfl⟩ ?_ ?_⟩
    · rintro i σ H' hi ⟨ds, v4, v5, v6, hl, hd, hR, sm, rfl, er⟩
      have stp : ∀ (d : Int), 0 ≤ d → d < b → (∀ x ∈ ds ++ [d], 0 ≤ x ∧ x < b) ∧ (upd H' R (.lst (ds.map V.int ++ [.int d]))) R = some (.lst ((ds ++ [d]).map V.int)) ∧ Same H (upd H' R (.lst (ds.map V.int ++ [.int d]))) := by
        intro d d0 d1
        refine ⟨fun x hx => ?_, ?_, fun bb o z => ?_⟩
        · rcases List.mem_append.mp hx with h | h
          · exact hd x h
          · rw [List.mem_singleton.mp h]
            exact ⟨d0, d1⟩
        · rw [upd_same, List.map_append]
          rfl
        · rw [upd_ne (ne_of_none z nR)]
          exact sm bb o z
      have lenR : (ds.map V.int).length < sizeLine := small1000 (by rw [List.length_map]; omega)
      have e0 := fun x : Int => Int.emod_nonneg x (Int.ne_of_gt b0)
      have e1 := fun x : Int => Int.emod_lt_of_pos x b0
      refine ⟨_, rfl, _, _, rfl, rfl, ⟨by decide, by decide, by decide⟩, _, _, rfl, rfl, _, rfl, ?_⟩
      refine ite2 (fun hb => ?_) (fun hb => ?_)
      · obtain ⟨s1, s2, s3⟩ := stp (v4 % b) (e0 _) (e1 _)
        exact ⟨_, rfl, .inl ⟨rfl, _, SqL.of hR⟩, _, rfl, .inl ⟨_, rfl, _, rfl, _, _, rfl, rfl, b0, R, _, _, rfl, rfl, hR, lenR, _, rfl, _, rfl, _, _, rfl, rfl, ⟨b0, by omega⟩, ds ++ [v4 % b], _, _, _, by simp [hl], s1, s2, s3, rfl, by rw [rowS_big i (of_decide_eq_true hb), ← er]⟩⟩
      · refine ⟨_, rfl, _, _, rfl, rfl, .inr ⟨by decide, by decide⟩, _, _, rfl, rfl, .inl ⟨_, rfl, _, _, rfl, rfl, m1, ?_⟩⟩
        refine ⟨_, rfl, _, _, rfl, rfl, .inr ⟨by decide, by decide⟩, _, rfl, _, _, rfl, rfl, .inl ⟨_, rfl, _, _, rfl, rfl, m2, ?_⟩⟩
        refine ⟨_, rfl, .inl ⟨rfl, _, SqL.of hR⟩, _, rfl, _, _, rfl, rfl, ⟨by decide, by decide⟩, .inl ⟨_, rfl, _, rfl, _, _, rfl, rfl, b0, R, _, _, rfl, rfl, hR, lenR, ?_⟩⟩
        exact ⟨ds ++ [_], _, _, _, by simp [hl], (stp _ (e0 _) (e1 _)).1, (stp _ (e0 _) (e1 _)).2.1, (stp _ (e0 _) (e1 _)).2.2, rfl, by rw [rowS_low i (fun z => hb (decide_eq_true z)), ← er]; simp only [Int.zero_add]⟩
    · rintro σ H' ⟨ds, v4, v5, v6, hl, hd, hR, sm, rfl, er⟩
      have ed : ds = rowF c n b := congrArg Prod.fst er
      rw [ed] at hl hd hR
      exact ⟨_, rfl, k H' R sm nR hR hl hd⟩
theorem ok_row : FnOk PP w K mg base CX0 1 T.f_law_row T.d_law_row ["_law_cell_here", "_law_count", "_law_base"] spRow :=
  (ok_rowD T).imp fun vs H Q E ⟨c, n, b, e, b0, b1, hn, k⟩ => ⟨c, n, b, e, b0, b1, hn, fun H' p => k H' p (rowF c n b)⟩

def spEntries : Sp := fun vs H Q _ => vs = [] ∧ ∀ H' p, Same H H' → H p = none → H' p = some (.lst (ENT.map V.str)) → Q (.ref p) H'
theorem ok_entries : FnOk PP w K mg base CX0 1 T.f_law_entries T.d_law_entries [] spEntries := by
  refine T.F_law_entries.ok sc_law_entries (fun vs H Q E h => ?_) (fun cdv A outer s H vs Q E hr h => ?_)
  · obtain ⟨rfl, _⟩ := h
    rfl
  · obtain ⟨rfl, k⟩ := h
    refine ⟨_, pss_cons (ps_set (i := 0) sc_law_entries.nd rfl (.inl rfl) (pe_lst (pa_cons pe_str (pa_cons pe_str (pa_cons pe_str (pa_cons pe_str pa_nil))))))
 (pss_cons (ps_set (i := 0) sc_law_entries.nd rfl (.inl rfl) (pe_op op_cat (pv 0) (pe_lst (pa_cons pe_str (pa_cons pe_str (pa_cons pe_str (pa_cons pe_str pa_nil)))))))
 (pss_cons (ps_set (i := 0) sc_law_entries.nd rfl (.inl rfl) (pe_op op_cat (pv 0) (pe_lst (pa_cons pe_str (pa_cons pe_str (pa_cons pe_str pa_nil))))))
 (pss_one (ps_ret (pe_op op_cat (pv 0) (pe_lst (pa_cons pe_str (pa_cons pe_str (pa_cons pe_str pa_nil))))))))), ?_⟩
    have l4 : 4 ≤ sizeLine := by decide
    have l3 : 3 ≤ sizeLine := by decide
    refine ⟨l4, fun p1 n1 => ?_⟩
    have s1 := same_new (o := .lst [.str "read late", .str "read under", .str "read below", .str "read above"]) (Same.refl H) n1
    refine ⟨_, rfl, l4, fun p2 n2 => ?_⟩
    have s2 := same_new (o := .lst [.str "write late", .str "write under", .str "write below", .str "write above"]) s1 n2
    refine ⟨p1, p2, _, _, rfl, rfl, kp n2 upd_same, upd_same, (by decide : 4 + 4 ≤ sizeLine), fun p3 n3 => ?_⟩
    have s3 := same_new (o := .lst ((ENT.take 8).map V.str)) s2 n3
    refine ⟨_, rfl, l3, fun p4 n4 => ?_⟩
    have s4 := same_new (o := .lst [.str "write free passed", .str "write own passed", .str "write late passed"]) s3 n4
    refine ⟨p3, p4, _, _, rfl, rfl, kp n4 upd_same, upd_same, (by decide : 8 + 3 ≤ sizeLine), fun p5 n5 => ?_⟩
    have s5 := same_new (o := .lst ((ENT.take 11).map V.str)) s4 n5
    refine ⟨_, rfl, l3, fun p6 n6 => ?_⟩
    have s6 := same_new (o := .lst [.str "write under passed", .str "write below passed", .str "write above passed"]) s5 n6
    refine ⟨p5, p6, _, _, rfl, rfl, kp n6 upd_same, upd_same, (by decide : 11 + 3 ≤ sizeLine), fun p7 n7 => ?_⟩
    exact k _ p7 (same_new (o := .lst (ENT.map V.str)) s6 n7) (s6.free n7) upd_same
def spChoices : Sp := fun vs H Q _ => ∃ e, vs = [.str e] ∧ ∀ H' p, Same H H' → H p = none → H' p = some (.lst ((chs e).map V.str)) → Q (.ref p) H'
theorem ok_choices : FnOk PP w K mg base CX0 1 T.f_law_choices T.d_law_choices ["_law_name"] spChoices := by
  refine T.F_law_choices.ok sc_law_choices (fun vs H Q E h => ?_) (fun cdv A outer s H vs Q E hr h => ?_)
  · obtain ⟨e, rfl, _⟩ := h
    rfl
  · obtain ⟨e, rfl, k⟩ := h
    refine ⟨_, pss_cons (ps_if (pt_cmpR op_eq (pv 0) pe_str (nomark _))
 (pss_one (ps_ret (pe_lst (pa_cons pe_str (pa_cons pe_str (pa_cons pe_str pa_nil))))))
 pss_nil)
 (pss_cons (ps_if (pt_cmpR op_eq (pv 0) pe_str (nomark _))
 (pss_one (ps_ret (pe_lst (pa_cons pe_str (pa_cons pe_str (pa_cons pe_str (pa_cons pe_str (pa_cons pe_str pa_nil))))))))
 pss_nil)
 (pss_cons (ps_if (pt_cmpR op_in_seq (pv 0) (pe_lst (pa_cons pe_str (pa_cons pe_str pa_nil))) rfl)
 (pss_one (ps_ret (pe_lst (pa_cons pe_str (pa_cons pe_str (pa_cons pe_str (pa_cons pe_str pa_nil)))))))
 pss_nil)
 (pss_cons (ps_if (pt_cmpR op_in_seq (pv 0) (pe_lst (pa_cons pe_str (pa_cons pe_str pa_nil))) rfl)
 (pss_one (ps_ret (pe_lst (pa_cons pe_str (pa_cons pe_str pa_nil)))))
 pss_nil)
 (pss_cons (ps_if (pt_cmpR op_in_seq (pv 0) (pe_lst (pa_cons pe_str (pa_cons pe_str pa_nil))) rfl)
 (pss_one (ps_ret (pe_lst (pa_cons pe_str (pa_cons pe_str pa_nil)))))
 pss_nil)
 (pss_one (ps_ret (pe_lst (pa_cons pe_str (pa_cons pe_str (pa_cons pe_str (pa_cons pe_str pa_nil))))))))))), ?_⟩
    have l2 : 2 ≤ sizeLine := by decide
    have l3 : 3 ≤ sizeLine := by decide
    have l4 : 4 ≤ sizeLine := by decide
    have l5 : 5 ≤ sizeLine := by decide
    have ds : ∀ a b : Str, decide (V.str a = V.str b) = decide (a = b) := fun a b => decide_eq_decide.mpr ⟨V.str.inj, congrArg _⟩
    refine ⟨_, rfl, rfl, _, rfl, ?_⟩
    rw [ds]
    by_cases h1 : e = "read late"
    · rw [decide_eq_true h1]
      have ec : chs e = [("last" : Str), "old", "abort"] := by unfold chs; rw [if_pos h1]
      rw [ec] at k
      exact iteT ⟨l3, fun p n => k _ p (same_new (Same.refl H) n) n upd_same⟩
    rw [decide_eq_false h1]
    refine iteF ⟨_, rfl, rfl, _, rfl, ?_⟩
    rw [ds]
    by_cases h2 : e = "read under"
    · rw [decide_eq_true h2]
      have ec : chs e = [("last" : Str), "old", "open", "wait", "abort"] := by unfold chs; rw [if_neg h1, if_pos h2]
      rw [ec] at k
      exact iteT ⟨l5, fun p n => k _ p (same_new (Same.refl H) n) n upd_same⟩
    rw [decide_eq_false h2]
    have mem2 : ∀ a b : Str, inV (.str e) [.str a, .str b] = decide (e = a ∨ e = b) := fun a b => by
      have z := inV_str e [a, b]
      simp only [List.mem_cons, List.not_mem_nil, or_false] at z
      exact z
    refine iteF ⟨_, rfl, l2, fun p1 n1 => ⟨p1, _, rfl, .inl (SqL.of upd_same), rfl, rfl, _, rfl, ?_⟩⟩
    have s1 := same_new (o := .lst [.str "read below", .str "read above"]) (Same.refl H) n1
    rw [if_neg Bool.false_ne_true, mem2]
    by_cases h3 : e = "read below" ∨ e = "read above"
    · rw [decide_eq_true h3]
      have ec : chs e = [("last" : Str), "open", "wait", "abort"] := by unfold chs; rw [if_neg h1, if_neg h2, if_pos h3]
      rw [ec] at k
      exact iteT ⟨l4, fun p n => k _ p (same_new s1 n) (s1.free n) upd_same⟩
    rw [decide_eq_false h3]
    refine iteF ⟨_, rfl, l2, fun p2 n2 => ⟨p2, _, rfl, .inl (SqL.of upd_same), rfl, rfl, _, rfl, ?_⟩⟩
    have s2 := same_new (o := .lst [.str "write free passed", .str "write own passed"]) s1 n2
    rw [if_neg Bool.false_ne_true, mem2]
    by_cases h4 : e = "write free passed" ∨ e = "write own passed"
    · rw [decide_eq_true h4]
      have ec : chs e = [("put" : Str), "abort"] := by unfold chs; rw [if_neg h1, if_neg h2, if_neg h3, if_pos h4]
      rw [ec] at k
      exact iteT ⟨l2, fun p n => k _ p (same_new s2 n) (s2.free n) upd_same⟩
    rw [decide_eq_false h4]
    refine iteF ⟨_, rfl, l2, fun p3 n3 => ⟨p3, _, rfl, .inl (SqL.of upd_same), rfl, rfl, _, rfl, ?_⟩⟩
    have s3 := same_new (o := .lst [.str "write late", .str "write late passed"]) s2 n3
    rw [if_neg Bool.false_ne_true, mem2]
    by_cases h5 : e = "write late" ∨ e = "write late passed"
    · rw [decide_eq_true h5]
      have ec : chs e = [("skip" : Str), "abort"] := by unfold chs; rw [if_neg h1, if_neg h2, if_neg h3, if_neg h4, if_pos h5]
      rw [ec] at k
      exact iteT ⟨l2, fun p n => k _ p (same_new s3 n) (s3.free n) upd_same⟩
    rw [decide_eq_false h5]
    have ec : chs e = [("skip" : Str), "wait", "wound", "abort"] := by unfold chs; rw [if_neg h1, if_neg h2, if_neg h3, if_neg h4, if_neg h5]
    rw [ec] at k
    exact iteF ⟨l4, fun p n => k _ p (same_new s3 n) (s3.free n) upd_same⟩
end
end K16

namespace K16
open PySem L2 SI CM BK OWN
section
variable {w : World} {K : PySem.W.Frag} {mg : Str → Option Value} {base : Heap} (T : Txt w K mg)
/-- a drawn table -/
def spTable : Sp := fun vs H Q _ => ∃ c : Int, vs = [.int c] ∧ ∀ H' p (f : Str → Str), Same H H' → H p = none → H' p = some (.dK (tabS ENT f)) → (∀ e ∈ ENT, f e ∈ chs e) → Q (.ref p) H'
theorem ok_table : FnOk PP w K mg base CX0 2 T.f_law_table T.d_law_table ["_law_cell_here"] spTable := by
  refine T.F_law_table.ok sc_law_table (fun vs H Q E h => ?_) (fun cdv A outer s H vs Q E hr h => ?_)
  · obtain ⟨c, rfl, _⟩ := h
    rfl
  · obtain ⟨c, rfl, k⟩ := h
    refine ⟨_, pss_cons (ps_set (i := 1) sc_law_table.nd rfl (.inl rfl) pe_dnewK)
 (pss_cons (ps_set (i := 2) sc_law_table.nd rfl (.inl rfl) (pe_call0 (ok_entries T) (hr.mono (by decide)) (by rfl) T.g_law_entries T.F_law_entries.kp (b_law_entries T) .nil pass0))
 (pss_cons (ps_set (i := 3) sc_law_table.nd rfl (.inl rfl) (pe_call (ok_row T) (hr.mono (by decide)) (by rfl) T.g_law_row T.F_law_row.kp (b_law_row T) .nil pass0 (pa_cons (pv 0) (pa_cons pe_int (pa_cons pe_int pa_nil)))))
 (C8.pss_cut (ps_for PassesOwn.never rfl (pi_range1 rfl T.n_range (pa_cons pe_int pa_nil)) (pg_name (i := 4) sc_law_table.nd rfl (.inl rfl))
 (pss_cons (ps_set (i := 5) sc_law_table.nd rfl (.inl rfl) (pe_call (ok_choices T) (hr.mono (by decide)) (by rfl) T.g_law_choices T.F_law_choices.kp (b_law_choices T) .nil pass0 (pa_cons (pe_ix ix_list (pv 2) (pv 4) (fun _ _ => rfl)) pa_nil)))
 (pss_one (ps_dput (hu_of hr) (pv 1) (pe_ix ix_list (pv 2) (pv 4) (fun _ _ => rfl)) (pe_ix ix_list (pv 5) (pe_op op_mod (pe_callTy call_int1 (by rfl) T.n_int (by decide +kernel) (pa_cons (pe_ix ix_list (pv 3) (pv 4) (fun _ _ => rfl)) pa_nil)) (pe_callB call_len_seq (by rfl) T.n_len PySem.boot_len (pa_cons (pv 5) pa_nil))) (fun _ _ => rfl)) rfl))))
 (pss_one (ps_ret (pv 1)))))), ?_⟩
    refine fun D nD => ?_
    have s0 := same_new (o := .dK []) (Same.refl H) nD
    refine ⟨rfl, fun H1 N s1 nN hN => ?_⟩
    refine ⟨_, rfl, c, 14, 60, rfl, by decide, by decide, by decide, fun H2 R ds s2 nR hR hl hd => ?_⟩
    have sm2 : Same H H2 := (s0.trans s1).trans s2
    have hD2 : H2 D = some (.dK []) := s2 _ _ (s1 _ _ upd_same)
    have hN2 := s2 _ _ hN
    have nND : N ≠ D := fun z => by rw [z, upd_same] at nN; cases nN
    have nRD : R ≠ D := fun z => by rw [z, s1 _ _ upd_same] at nR; cases nR
    refine ⟨fun σ H' => ∃ v4 v5 f, σ = [some (.int c), some (.ref D), some (.ref N), some (.ref R), v4, v5] ∧ H' D = some (.dK (tabS ENT f)) ∧ (∀ e ∈ ENT, f e ∈ chs e) ∧ (∀ b o, b ≠ D → H2 b = some o → H' b = some o), ?_, ?_⟩
    · refine ⟨14, rfl, by decide, by decide, for_range (lo := 0) (n := 14) (fun i σ H' => ∃ v4 v5 f, σ = [some (.int c), some (.ref D), some (.ref N), some (.ref R), v4, v5] ∧ H' D = some (.dK (tabS (ENT.take i) f)) ∧ (∀ e ∈ ENT.take i, f e ∈ chs e) ∧ (∀ b o, b ≠ D → H2 b = some o → H' b = some o))
        ⟨none, none, fun _ => "", rfl, hD2, (fun e h => by cases h), fun b o _ z => z⟩ ?_ ?_⟩
      · rintro i σ H3 hi ⟨v4, v5, f, rfl, hD3, hf, b3⟩
        have hi' : i < ENT.length := hi
        have hN3 := b3 _ _ nND hN2
        have hR3 := b3 _ _ nRD hR
        obtain ⟨d, hd'⟩ : ∃ d, ds[i]? = some d := ⟨ds[i]'(by omega), List.getElem?_eq_getElem (by omega)⟩
        have d0 := hd d (List.mem_of_getElem? hd')
        have eN : atI (ENT.map V.str) (0 + (i : Int)) = some (.str ENT[i]) := by
          rw [Int.zero_add]
          exact atI_nat (by rw [List.getElem?_map, List.getElem?_eq_getElem hi']; rfl)
        have eR : atI (ds.map V.int) (0 + (i : Int)) = some (.int d) := by
          rw [Int.zero_add]
          exact atI_nat (by rw [List.getElem?_map, hd']; rfl)
        refine ⟨_, rfl, _, rfl, N, _, _, _, rfl, rfl, SqL.of hN3, eN, _, rfl, fun H4 P s4 nP hP => ?_⟩
        have cl := chs_len ENT[i]
        have posn : (0 : Int) < (((chs ENT[i]).map V.str).length : Nat) := by rw [List.length_map]; omega
        refine ⟨_, rfl, _, rfl, _, rfl, R, _, _, _, rfl, rfl, SqL.of (s4 _ _ hR3), eR, .inl ⟨_, rfl, _, rfl, P, _, rfl, .inl (SqL.of hP), _, _, rfl, rfl, posn, ?_⟩⟩
        have m0 := Int.emod_nonneg d (Int.ne_of_gt posn)
        have m1 := Int.emod_lt_of_pos d posn
        obtain ⟨j, hj⟩ := Int.eq_ofNat_of_zero_le m0
        have hj2 : j < (chs ENT[i]).length := by rw [hj, List.length_map] at m1; omega
        have eA : atI ((chs ENT[i]).map V.str) (d % (((chs ENT[i]).map V.str).length : Nat)) = some (.str (chs ENT[i])[j]) := by
          rw [hj]
          exact atI_nat (by rw [List.getElem?_map, List.getElem?_eq_getElem hj2]; rfl)
        refine ⟨P, _, _, _, rfl, rfl, SqL.of hP, eA, _, rfl, _, rfl, _, rfl, N, _, _, _, rfl, rfl, SqL.of (s4 _ _ hN3), eN, D, _, rfl, DPut.k (k := Sum.inr ENT[i]) (s4 _ _ hD3) (by rw [tab_len, List.length_take]; exact small1000 (by rw [ent_len]; omega)), ?_⟩
        have hn : ENT[i] ∉ ENT.take i := fun z => by
          obtain ⟨jj, hjj, ej⟩ := List.mem_iff_getElem.mp z
          rw [List.length_take] at hjj
          rw [List.getElem_take] at ej
          exact (List.pairwise_iff_getElem.mp ent_nodup) jj i (by omega) hi' (by omega) ej
        have et : ENT.take (i + 1) = ENT.take i ++ [ENT[i]] := by rw [List.take_add_one, List.getElem?_eq_getElem hi'] <;> rfl
        refine ⟨_, _, put f ENT[i] (chs ENT[i])[j], rfl, ?_, fun e he => ?_, fun b o hb z => ?_⟩
        · rw [upd_same, put_new (g := V.str) hn, et]
        · rw [et] at he
          by_cases q : e = ENT[i]
          · rw [q, put_same]
            exact List.getElem_mem hj2
          · rw [put_ne q]
            rcases List.mem_append.mp he with he | he
            · exact hf e he
            · exact absurd (List.mem_singleton.mp he) q
        · rw [upd_ne hb]
          exact s4 _ _ (b3 b o hb z)
      · rintro σ H3 ⟨v4, v5, f, rfl, hD3, hf, b3⟩
        exact ⟨_, _, f, rfl, hD3, hf, b3⟩
    rintro σ H3 ⟨v4, v5, f, rfl, hD3, hf, b3⟩
    exact ⟨_, rfl, k H3 D f (fun b o z => b3 b o (ne_of_none z nD) (sm2 b o z)) nD hD3 hf⟩
end
end K16

namespace K16
open PySem L2 SI CM BK OWN MIR StX TX TL
section
variable {w : World} {K : PySem.W.Frag} {mg : Str → Option Value} {base : Heap} (T : Txt w K mg)
def spFits (K : PySem.W.Frag) : Sp := fun vs H Q _ => ∃ (nm an : Str) (a : Addr) (l u o s : Bool), vs = [.str nm, .str an, .ref a] ∧ SqL K H a [.bl l, .bl u, .bl o, .bl s] ∧ ∀ (H' : Hp) (r : Bool), Same H H' → (an = "abort" → r = true) → Q (.bl r) H'
theorem ok_fits : FnOk PP w K mg base CX0 1 T.f_law_fits T.d_law_fits ["_law_name", "_law_answer", "_law_flags"] (spFits K) := by
  refine T.F_law_fits.ok sc_law_fits (fun vs H Q E h => ?_) (fun cdv A outer s H vs Q E hr h => ?_)
  · obtain ⟨nm, an, a, l, u, o, s, rfl, _⟩ := h
    rfl
  · obtain ⟨nm, an, a, l, u, o, sk, rfl, ha, k⟩ := h
    refine ⟨_, pss_cons (ps_asg (pv 2) (pg_unl rfl (pgs_cons (pg_name (i := 3) sc_law_fits.nd rfl (.inl rfl)) (pgs_cons (pg_name (i := 4) sc_law_fits.nd rfl (.inl rfl)) (pgs_cons (pg_name (i := 5) sc_law_fits.nd rfl (.inl rfl)) (pgs_cons (pg_name (i := 6) sc_law_fits.nd rfl (.inl rfl)) pgs_nil))))))
 (pss_cons (ps_if (pt_cmpR op_in_seq (pv 1) (pe_lst (pa_cons pe_str (pa_cons pe_str (pa_cons pe_str pa_nil)))) rfl)
 (pss_one (ps_ret pe_bl))
 pss_nil)
 (pss_cons (ps_if (pt_cmpR op_in_seq (pv 0) (pe_lst (pa_cons pe_str (pa_cons pe_str pa_nil))) rfl)
 (pss_one (ps_ret (pe_and (pe_cmpR op_eq (pv 1) pe_str (nomark _)) (pe_one (pv 5)))))
 pss_nil)
 (pss_cons (ps_if (pt_cmpR op_eq (pv 0) pe_str (nomark _))
 (pss_one (ps_ret (pe_and (pe_cmpR op_eq (pv 1) pe_str (nomark _)) (pe_one (pe_not (pv 4))))))
 pss_nil)
 (pss_cons (ps_if (pt_cmpR op_eq (pv 0) pe_str (nomark _))
 (pss_one (ps_ret (pe_and (pe_cmpR op_eq (pv 1) pe_str (nomark _)) (pe_one (pv 3)))))
 pss_nil)
 (pss_cons (ps_if (pt_cmpR op_in_seq (pv 0) (pe_lst (pa_cons pe_str (pa_cons pe_str pa_nil))) rfl)
 (pss_one (ps_ret (pv 6)))
 pss_nil)
 (pss_cons (ps_if (pt_cmpR op_eq (pv 0) pe_str (nomark _))
 (pss_one (ps_ret (pe_and (pv 4) (pe_one (pv 6)))))
 pss_nil)
 (pss_one (ps_ret (pe_and (pe_cmpR op_in_seq (pv 0) (pe_lst (pa_cons pe_str (pa_cons pe_str pa_nil))) rfl) (pe_one (pe_not (pv 3)))))))))))), ?_⟩
    have two : 2 ≤ sizeLine := by decide
    have three : 3 ≤ sizeLine := by decide
    refine ⟨_, rfl, a, _, rfl, ha, rfl, _, _, rfl, _, _, rfl, _, _, rfl, _, _, rfl, rfl, ?_⟩
    refine ⟨_, rfl, three, fun t nt => ⟨t, _, rfl, .inl (SqL.of upd_same), rfl, rfl, _, rfl, ?_⟩⟩
    have s1 := same_new (o := .lst [.str "wait", .str "wound", .str "abort"]) (Same.refl H) nt
    generalize upd H t (.lst [.str "wait", .str "wound", .str "abort"]) = H1 at s1
    rw [show inV (V.str an) [V.str "wait", V.str "wound", V.str "abort"] = decide (an ∈ (["wait", "wound", "abort"] : List Str)) from inV_str an ["wait", "wound", "abort"]]
    by_cases c1 : an ∈ (["wait", "wound", "abort"] : List Str)
    · rw [decide_eq_true c1]
      exact iteT (k H1 true s1 fun _ => rfl)
    rw [decide_eq_false c1]
    have fin : ∀ (H' : Hp) (r : Bool), Same H H' → Q (.bl r) H' := fun H' r s => k H' r s fun e => absurd (by rw [e]; decide +kernel) c1
    refine iteF ⟨_, rfl, two, fun t nt => ⟨t, _, rfl, .inl (SqL.of upd_same), rfl, rfl, _, rfl, ?_⟩⟩
    have s2 := same_new (o := .lst [.str "read late", .str "read under"]) s1 nt
    generalize upd H1 t (.lst [.str "read late", .str "read under"]) = H2 at s2
    cases inV (V.str nm) [V.str "read late", V.str "read under"] with
    | true =>
      refine iteT ⟨_, rfl, rfl, _, rfl, ?_⟩
      rw [ds]
      by_cases c : an = "old"
      · rw [decide_eq_true c]; exact iteT ⟨_, rfl, fin H2 _ s2⟩
      · rw [decide_eq_false c]; exact iteF (fin H2 _ s2)
    | false =>
    refine iteF ⟨_, rfl, rfl, _, rfl, ?_⟩
    rw [ds]
    by_cases c2 : nm = "read below"
    · rw [decide_eq_true c2]
      refine iteT ⟨_, rfl, rfl, _, rfl, ?_⟩
      rw [ds]
      by_cases c : an = "last"
      · rw [decide_eq_true c]; exact iteT ⟨_, rfl, _, rfl, fin H2 _ s2⟩
      · rw [decide_eq_false c]; exact iteF (fin H2 _ s2)
    rw [decide_eq_false c2]
    refine iteF ⟨_, rfl, rfl, _, rfl, ?_⟩
    rw [ds]
    by_cases c3 : nm = "read above"
    · rw [decide_eq_true c3]
      refine iteT ⟨_, rfl, rfl, _, rfl, ?_⟩
      rw [ds]
      by_cases c : an = "open"
      · rw [decide_eq_true c]; exact iteT ⟨_, rfl, fin H2 _ s2⟩
      · rw [decide_eq_false c]; exact iteF (fin H2 _ s2)
    rw [decide_eq_false c3]
    refine iteF ⟨_, rfl, two, fun t nt => ⟨t, _, rfl, .inl (SqL.of upd_same), rfl, rfl, _, rfl, ?_⟩⟩
    have s3 := same_new (o := .lst [.str "write late", .str "write under"]) s2 nt
    generalize upd H2 t (.lst [.str "write late", .str "write under"]) = H3 at s3
    cases inV (V.str nm) [V.str "write late", V.str "write under"] with
    | true => exact iteT ⟨_, rfl, fin H3 _ s3⟩
    | false =>
    refine iteF ⟨_, rfl, rfl, _, rfl, ?_⟩
    rw [ds]
    by_cases c4 : nm = "write below"
    · rw [decide_eq_true c4]
      refine iteT ⟨_, rfl, _, rfl, ?_⟩
      cases u with
      | true => exact iteT ⟨_, rfl, fin H3 _ s3⟩
      | false => exact iteF (fin H3 _ s3)
    rw [decide_eq_false c4]
    refine iteF ⟨_, rfl, two, fun t nt => ⟨t, _, rfl, .inl (SqL.of upd_same), rfl, rfl, _, rfl, ?_⟩⟩
    have s4 := same_new (o := .lst [.str "write own passed", .str "write above passed"]) s3 nt
    generalize upd H3 t (.lst [.str "write own passed", .str "write above passed"]) = H4 at s4
    cases inV (V.str nm) [V.str "write own passed", V.str "write above passed"] with
    | true => exact iteT ⟨_, rfl, _, rfl, fin H4 _ s4⟩
    | false => exact iteF (fin H4 _ s4)
end
end K16

namespace K16
open PySem L2 SI CM BK OWN MIR StX TX TL
section
variable {w : World} {K : PySem.W.Frag} {mg : Str → Option Value} {base : Heap} (T : Txt w K mg)
def spSound : Sp := fun vs H Q _ => ∃ (c k : Int) (r : Str), vs = [.int c, .str r, .int k] ∧ ∀ (H' : Hp) (p : Addr) (f : Str → Str), Same H H' → H p = none → H' p = some (.dK (tabS ENT f)) → (∀ e ∈ ENT, f e ∈ chs e) → Q (.ref p) H'
theorem abort_in : ∀ e ∈ ENT, ("abort" : Str) ∈ chs e := by decide +kernel
theorem ok_sound : FnOk PP w K mg base CX0 2 T.f_law_sound T.d_law_sound ["_law_cell_here", "_law_rule", "_law_kept"] spSound := by
  refine T.F_law_sound.ok sc_law_sound (fun vs H Q E h => ?_) (fun cdv A outer s H vs Q E hr h => ?_)
  · obtain ⟨c, k, r, rfl, _⟩ := h
    rfl
  · obtain ⟨c, kept, r, rfl, k⟩ := h
    refine ⟨_, pss_cons (ps_set (i := 3) sc_law_sound.nd rfl (.inl rfl) (pe_call (ok_row T) (hr.mono (by decide)) (by rfl) T.g_law_row T.F_law_row.kp (b_law_row T) .nil pass0 (pa_cons (pv 0) (pa_cons pe_int (pa_cons pe_int pa_nil)))))
 (C8.pss_cut (ps_set (i := 4) sc_law_sound.nd rfl (.inl rfl) (pe_and (pe_cmpR op_eq (pv 1) pe_str (nomark _)) (pe_one (pe_cmpR op_eq (pe_op op_mod (pe_ix ix_list (pv 3) pe_int (fun _ _ => rfl)) pe_int) pe_int (nomark _)))))
 (C8.pss_cut (ps_set (i := 5) sc_law_sound.nd rfl (.inl rfl) (pe_and (pe_cmpR op_eq (pv 1) pe_str (nomark _)) (pe_one (pe_cmpR op_eq (pe_op op_mod (pe_ix ix_list (pv 3) pe_int (fun _ _ => rfl)) pe_int) pe_int (nomark _)))))
 (pss_cons (ps_set (i := 6) sc_law_sound.nd rfl (.inl rfl) (pe_cmpR op_eq (pe_op op_mod (pe_ix ix_list (pv 3) pe_int (fun _ _ => rfl)) pe_int) pe_int (nomark _)))
 (C8.pss_cut (ps_set (i := 7) sc_law_sound.nd rfl (.inr rfl) (pe_lst (pa_cons (pv 4) (pa_cons (pv 5) (pa_cons (pe_or (pv 6) (pe_one (pe_cmpR op_eq (pv 2) pe_int (nomark _)))) (pa_cons (pe_or (pe_cmpR op_eq (pv 2) pe_int (nomark _)) (pe_one (pe_not (pv 6)))) pa_nil))))))
 (pss_cons (ps_set (i := 8) sc_law_sound.nd rfl (.inl rfl) pe_dnewK)
 (pss_cons (ps_set (i := 9) sc_law_sound.nd rfl (.inr rfl) (pe_call0 (ok_entries T) (hr.mono (by decide)) (by rfl) T.g_law_entries T.F_law_entries.kp (b_law_entries T) .nil pass0))
 (C8.pss_cut (ps_for PassesOwn.never rfl (pi_range1 rfl T.n_range (pa_cons pe_int pa_nil)) (pg_name (i := 10) sc_law_sound.nd rfl (.inr rfl))
 (pss_cons (ps_set (i := 11) sc_law_sound.nd rfl (.inl rfl) (pe_call (ok_choices T) (hr.mono (by decide)) (by rfl) T.g_law_choices T.F_law_choices.kp (b_law_choices T) .nil pass0 (pa_cons (pe_ix ix_list (pv 9) (pv 10) (fun _ _ => rfl)) pa_nil)))
 (pss_cons (ps_setLc (i := 13) (own := [("_law_answer", 12)]) (g := gName 12) (by rfl) sc_law_sound.nd rfl rfl (sw_true rfl rfl rfl (by decide +kernel)) (pi_list (pv 11)) (blkOk_by (N := ["_law_cell_here", "_law_rule", "_law_kept", "_law_draws", "_law_lifted", "_law_under", "_law_older", "_law_flags", "_law_table_here", "_law_names_here", "_law_k", "_law_options", "_law_answer", "_law_good"]) (sc := defScope s_law_sound) (by decide +kernel)) (fun _ _ _ _ _ => pg_name (i := 12) sc_law_sound.nd rfl (Or.inl rfl)) (fun _ _ _ _ _ => pts_one (pt_val (pe_call (ok_fits T) (hr.mono (by decide)) (by rfl) T.g_law_fits T.F_law_fits.kp (b_law_fits T) .nil pass0 (pa_cons (pe_ix (r := rIxL K) ix_list (pv 9) (pv 10) (fun _ _ => rfl)) (pa_cons (pv 12) (pa_cons (pv 7) pa_nil)))))) (fun _ _ _ _ _ => (pv 12)))
 (pss_cons (ps_dput (hu_of hr) (pv 8) (pe_ix ix_list (pv 9) (pv 10) (fun _ _ => rfl)) (pe_ix ix_list (pv 13) pe_int (fun _ _ => rfl)) rfl)
 (pss_one (ps_if (pt_cmpR op_gt (pe_op op_mod (pe_ix ix_list (pv 3) (pv 10) (fun _ _ => rfl)) pe_int) pe_int (nomark _))
 (pss_one (ps_dput (hu_of hr) (pv 8) (pe_ix ix_list (pv 9) (pv 10) (fun _ _ => rfl)) (pe_ix ix_list (pv 13) (pe_op op_mod (pe_callTy call_int1 (by rfl) T.n_int (by decide +kernel) (pa_cons (pe_op op_fdiv (pe_ix ix_list (pv 3) (pv 10) (fun _ _ => rfl)) pe_int) pa_nil)) (pe_callB call_len_seq (by rfl) T.n_len PySem.boot_len (pa_cons (pv 13) pa_nil))) (fun _ _ => rfl)) rfl))
 pss_nil))))))
 (pss_one (ps_ret (pv 8)))))))))), ?_⟩
    have four : 4 ≤ sizeLine := by decide
    have p2 : (0 : Int) < 2 := by decide
    have p3 : (0 : Int) < 3 := by decide
    have di : ∀ i j : Int, decide (V.int i = V.int j) = decide (i = j) := fun i j => decide_eq_decide.mpr ⟨V.int.inj, congrArg _⟩
    refine ⟨_, rfl, c, 17, 60, rfl, by decide, by decide, by decide, fun H1 R dr s1 nR hR hl hd => ?_⟩
    have at_ : ∀ j : Nat, j < 17 → atI (dr.map V.int) (j : Int) = some (.int (dr.getD j 0)) := fun j hj => atI_nat (by rw [List.getElem?_map, List.getD_eq_getElem?_getD, List.getElem?_eq_getElem (by omega)]; rfl)
    refine ⟨fun τ H' => ∃ l : Bool, τ = [some (.int c), some (.str r), some (.int kept), some (.ref R), some (.bl l), none, none, none, none, none, none, none, none, none] ∧ H' = H1, ?_, ?_⟩
    · refine ⟨_, rfl, rfl, _, rfl, ?_⟩
      rw [ds]
      by_cases e : r = "after"
      · rw [decide_eq_true e]
        exact iteT ⟨_, rfl, R, _, _, _, rfl, rfl, SqL.of hR, at_ 14 (by decide), _, _, rfl, rfl, p2, rfl, ⟨_, rfl, rfl⟩⟩
      · rw [decide_eq_false e]
        exact iteF ⟨_, rfl, rfl⟩
    rintro τ H2 ⟨l, rfl, rfl⟩
    refine ⟨fun τ H' => ∃ u : Bool, τ = [some (.int c), some (.str r), some (.int kept), some (.ref R), some (.bl l), some (.bl u), none, none, none, none, none, none, none, none] ∧ H' = H2, ?_, ?_⟩
    · refine ⟨_, rfl, rfl, _, rfl, ?_⟩
      rw [ds]
      by_cases e : r = "after"
      · rw [decide_eq_true e]
        exact iteT ⟨_, rfl, R, _, _, _, rfl, rfl, SqL.of hR, at_ 15 (by decide), _, _, rfl, rfl, p2, rfl, ⟨_, rfl, rfl⟩⟩
      · rw [decide_eq_false e]
        exact iteF ⟨_, rfl, rfl⟩
    rintro τ H3 ⟨u, rfl, rfl⟩
    refine ⟨_, rfl, R, _, _, _, rfl, rfl, SqL.of hR, at_ 16 (by decide), _, _, rfl, rfl, p2, rfl, ?_⟩
    generalize decide (V.int (dr.getD 16 0 % 2) = V.int 1) = o
    refine ⟨fun τ H' => ∃ (F : Addr) (x y : Bool), τ = [some (.int c), some (.str r), some (.int kept), some (.ref R), some (.bl l), some (.bl u), some (.bl o), some (.ref F), none, none, none, none, none, none] ∧ H' F = some (.lst [.bl l, .bl u, .bl x, .bl y]) ∧ Same H3 H', ?_, ?_⟩
    · refine ⟨_, rfl, _, rfl, _, rfl, o, rfl, ?_⟩
      have k7 : ∀ x y : Bool, four = four → ∀ (H5 : Hp), H5 = H3 → 4 ≤ sizeLine ∧ ∀ F, H5 F = none → ∃ (F' : Addr) (x' y' : Bool), [some (.int c), some (.str r), some (.int kept), some (.ref R), some (.bl l), some (.bl u), some (.bl o), some (.ref F), none, none, none, none, none, none] = [some (V.int c), some (.str r), some (.int kept), some (.ref R), some (.bl l), some (.bl u), some (.bl o), some (.ref F'), none, none, none, none, none, none] ∧ (upd H5 F (.lst [.bl l, .bl u, .bl x, .bl y])) F' = some (.lst [.bl l, .bl u, .bl x', .bl y']) ∧ Same H3 (upd H5 F (.lst [.bl l, .bl u, .bl x, .bl y])) := fun x y _ H5 e => ⟨four, fun F nF => ⟨F, x, y, rfl, upd_same, by rw [e] at nF ⊢; exact same_new (Same.refl H3) nF⟩⟩
      cases o with
      | true =>
        refine iteT ⟨_, rfl, rfl, _, rfl, ?_⟩
        cases decide (V.int kept = V.int 1) with
        | true => exact iteT (k7 _ _ rfl _ rfl)
        | false => exact iteF ⟨_, rfl, _, rfl, k7 _ _ rfl _ rfl⟩
      | false =>
        refine iteF ⟨_, rfl, rfl, _, rfl, rfl, _, rfl, ?_⟩
        cases decide (V.int kept = V.int 1) with
        | true => exact iteT (k7 _ _ rfl _ rfl)
        | false => exact iteF ⟨_, rfl, _, rfl, k7 _ _ rfl _ rfl⟩
    rintro τ H4 ⟨F, x, y, rfl, hF, s34⟩
    refine fun D nD => ?_
    have s4 := s1.trans s34
    have s5 := same_new (o := .dK []) s4 nD
    have s45 := same_new (o := .dK []) (Same.refl H4) nD
    have hD0 : (upd H4 D (.dK [])) D = some (.dK []) := upd_same
    have fD : H D = none := s4.free nD
    generalize upd H4 D (.dK []) = H5 at s5 s45 hD0
    refine ⟨rfl, fun H6 N s56 nN hN => ?_⟩
    have s46 := s45.trans s56
    have hD6 := s56 _ _ hD0
    have hF6 := s46 _ _ hF
    have hR6 := (s34.trans s46) _ _ hR
    have FD : F ≠ D := fun z => by rw [z, hD6] at hF6; cases hF6
    have ND : N ≠ D := fun z => by rw [z, hD6] at hN; cases hN
    have RD : R ≠ D := fun z => by rw [z, hD6] at hR6; cases hR6
    refine ⟨fun τ H' => ∃ (v10 v11 v12 v13 : Option V) (f : Str → Str), τ = [some (.int c), some (.str r), some (.int kept), some (.ref R), some (.bl l), some (.bl u), some (.bl o), some (.ref F), some (.ref D), some (.ref N), v10, v11, v12, v13] ∧ H' D = some (.dK (tabS ENT f)) ∧ (∀ e ∈ ENT, f e ∈ chs e) ∧ (∀ b o, b ≠ D → H6 b = some o → H' b = some o), ?_, ?_⟩
    · refine ⟨14, rfl, by decide, by decide, for_range (lo := 0) (n := 14) (fun i τ H' => ∃ (v10 v11 v12 v13 : Option V) (f : Str → Str), τ = [some (.int c), some (.str r), some (.int kept), some (.ref R), some (.bl l), some (.bl u), some (.bl o), some (.ref F), some (.ref D), some (.ref N), v10, v11, v12, v13] ∧ H' D = some (.dK (tabS (ENT.take i) f)) ∧ (∀ e ∈ ENT.take i, f e ∈ chs e) ∧ (∀ b o, b ≠ D → H6 b = some o → H' b = some o))
        ⟨none, none, none, none, fun _ => "", rfl, hD6, (fun e h => by cases h), fun _ _ _ z => z⟩ ?_ ?_⟩
      · rintro i τ H7 hi ⟨v10, v11, v12, v13, f, rfl, hD7, hf, k7⟩
        have hi' : i < ENT.length := hi
        have hN7 := k7 _ _ ND hN
        have hR7 := k7 _ _ RD hR6
        have hF7 := k7 _ _ FD hF6
        have eN : atI (ENT.map V.str) (0 + (i : Int)) = some (.str ENT[i]) := by
          rw [Int.zero_add]
          exact atI_nat (by rw [List.getElem?_map, List.getElem?_eq_getElem hi']; rfl)
        have eR : atI (dr.map V.int) (0 + (i : Int)) = some (.int (dr.getD i 0)) := by
          rw [Int.zero_add]; exact at_ i (by omega)
        have heE : ENT[i] ∈ ENT := List.getElem_mem hi'
        have hn : ENT[i] ∉ ENT.take i := fun z => by
          obtain ⟨jj, hjj, ej⟩ := List.mem_iff_getElem.mp z
          rw [List.length_take] at hjj
          rw [List.getElem_take] at ej
          exact (List.pairwise_iff_getElem.mp ent_nodup) jj i (by omega) hi' (by omega) ej
        have et : ENT.take (i + 1) = ENT.take i ++ [ENT[i]] := by rw [List.take_add_one, List.getElem?_eq_getElem hi'] <;> rfl
        generalize ENT[i] = e at eN heE hn et
        refine ⟨_, rfl, _, rfl, N, _, _, _, rfl, rfl, SqL.of hN7, eN, _, rfl, fun H8 P s78 nP hP => ?_⟩
        have cl := chs_len e
        refine ⟨_, rfl, P, rfl, ⟨_, SqL.of hP⟩, fun G nG => lc_list (xs := (chs e).map V.str) (fun j H' => ∃ gs : List Str, H' G = some (.lst (gs.map V.str)) ∧ gs.length ≤ j ∧ (∀ g ∈ gs, g ∈ chs e) ∧ (("abort" : Str) ∈ (chs e).take j → ("abort" : Str) ∈ gs) ∧ Same H8 H')
          ⟨[], upd_same, Nat.le_refl _, (fun g h => by cases h), (fun h => by cases h), same_new (Same.refl H8) nG⟩ (fun j H' _ ⟨_, _, _, _, _, s⟩ => SqL.of (s _ _ hP)) ?_ ?_⟩
        · rintro j x2 H9 hx ⟨gs, hG, hgl, hgs, hab, s89⟩
          rw [List.getElem?_map] at hx
          cases hq : (chs e)[j]? with
          | none => rw [hq] at hx; cases hx
          | some an =>
          rw [hq] at hx
          cases hx
          have hj : j < (chs e).length := (List.getElem?_eq_some_iff.mp hq).1
          have ec : (chs e).take (j + 1) = (chs e).take j ++ [an] := by rw [List.take_add_one, hq]; rfl
          have s79 := s78.trans s89
          refine ⟨rfl, _, rfl, _, rfl, N, _, _, _, rfl, rfl, SqL.of (s79 _ _ hN7), eN, _, rfl, _, rfl, e, an, F, l, u, x, y, rfl, SqL.of (s79 _ _ hF7), fun H' rr sm har => ⟨_, rfl, ?_⟩⟩
          have hG' := sm _ _ hG
          cases rr with
          | true =>
            refine iteT ⟨_, rfl, _, hG', small1000 (by rw [List.length_map]; omega), gs ++ [an], by rw [upd_same, List.map_append]; rfl, by rw [List.length_append]; show gs.length + 1 ≤ _; omega, fun g hg => ?_, fun h => ?_, fun b o z => ?_⟩
            · rcases List.mem_append.mp hg with h | h
              · exact hgs g h
              · rw [List.mem_singleton.mp h]; exact List.mem_of_getElem? hq
            · rw [ec] at h
              rcases List.mem_append.mp h with h | h
              · exact List.mem_append.mpr (.inl (hab h))
              · exact List.mem_append.mpr (.inr h)
            · rw [upd_ne (ne_of_none z nG)]; exact (s89.trans sm) b o z
          | false =>
            refine iteF ⟨gs, hG', by omega, hgs, fun h => ?_, s89.trans sm⟩
            rw [ec] at h
            rcases List.mem_append.mp h with h | h
            · exact hab h
            · have := har (List.mem_singleton.mp h).symm; cases this
        rintro H9 ⟨gs, hG, hgl, hgs, hab, s89⟩
        rw [List.length_map] at hgl hab
        rw [List.take_length] at hab
        have hab := hab (abort_in e heE)
        have hgp : 0 < gs.length := List.length_pos_of_mem hab
        have s79 := s78.trans s89
        have hD9 := s79 _ _ hD7
        have hN9 := s79 _ _ hN7
        have hR9 := s79 _ _ hR7
        have GD : G ≠ D := fun z => by rw [z, hD9] at hG; cases hG
        have eg0 : atI (gs.map V.str) 0 = some (.str gs[0]) := atI_nat (j := 0) (by rw [List.getElem?_map, List.getElem?_eq_getElem hgp]; rfl)
        have hg0 : gs[0] ∈ chs e := hgs _ (List.getElem_mem hgp)
        generalize gs[0] = g0 at eg0 hg0
        refine ⟨_, rfl, G, _, _, _, rfl, rfl, SqL.of hG, eg0, _, rfl, _, rfl, _, rfl, N, _, _, _, rfl, rfl, SqL.of hN9, eN, D, _, rfl, DPut.k (k := Sum.inr e) hD9 (by rw [tab_len, List.length_take]; exact small1000 (by rw [ent_len]; omega)), ?_⟩
        rw [put_new (g := V.str) (a := g0) hn]
        have k9 : ∀ b o, b ≠ D → H6 b = some o → (upd H9 D (.dK (tab V.str (ENT.take i ++ [e]) (put f e g0)))) b = some o := fun b o hb z => by rw [upd_ne hb]; exact s79 _ _ (k7 b o hb z)
        have hD10 : (upd H9 D (.dK (tab V.str (ENT.take i ++ [e]) (put f e g0)))) D = some (.dK (tab V.str (ENT.take i ++ [e]) (put f e g0))) := upd_same
        have hG10 : (upd H9 D (.dK (tab V.str (ENT.take i ++ [e]) (put f e g0)))) G = some (.lst (gs.map V.str)) := by rw [upd_ne GD]; exact hG
        generalize (upd H9 D (.dK (tab V.str (ENT.take i ++ [e]) (put f e g0)))) = H10 at k9 hD10 hG10
        have okf : ∀ g1, g1 ∈ chs e → ∀ e' ∈ ENT.take (i + 1), put f e g1 e' ∈ chs e' := fun g1 h1 e' he' => by
          rw [et] at he'
          by_cases q : e' = e
          · rw [q, put_same]; exact h1
          · rw [put_ne q]
            rcases List.mem_append.mp he' with h | h
            · exact hf e' h
            · exact absurd (List.mem_singleton.mp h) q
        refine ⟨_, rfl, _, rfl, R, _, _, _, rfl, rfl, SqL.of (k9 _ _ RD hR6), eR, _, _, rfl, rfl, p3, _, _, rfl, rfl, _, rfl, ite2 (fun _ => ?_) (fun _ => ?_)⟩
        · have pg : (0 : Int) < ((gs.map V.str).length : Nat) := by rw [List.length_map]; omega
          have m0 := Int.emod_nonneg (dr.getD i 0 / 3) (Int.ne_of_gt pg)
          have m1 := Int.emod_lt_of_pos (dr.getD i 0 / 3) pg
          obtain ⟨j, hj⟩ := Int.eq_ofNat_of_zero_le m0
          have hj2 : j < gs.length := by rw [hj, List.length_map] at m1; omega
          have eg1 : atI (gs.map V.str) (dr.getD i 0 / 3 % (((gs.map V.str).length : Nat) : Int)) = some (.str gs[j]) := by
            rw [hj]; exact atI_nat (by rw [List.getElem?_map, List.getElem?_eq_getElem hj2]; rfl)
          have hg1 : gs[j] ∈ chs e := hgs _ (List.getElem_mem hj2)
          generalize gs[j] = g1 at eg1 hg1
          refine ⟨_, rfl, _, rfl, _, rfl, R, _, _, _, rfl, rfl, SqL.of (k9 _ _ RD hR6), eR, _, _, rfl, rfl, ⟨by decide, by decide⟩, .inl ⟨_, rfl, _, rfl, G, _, rfl, .inl (SqL.of hG10), _, _, rfl, rfl, pg, G, _, _, _, rfl, rfl, SqL.of hG10, eg1, ?_⟩⟩
          refine ⟨_, rfl, _, rfl, _, rfl, N, _, _, _, rfl, rfl, SqL.of (k9 _ _ ND hN), eN, D, _, rfl, DPut.k (k := Sum.inr e) hD10 (by rw [tab_len, List.length_append, List.length_take]; exact small1000 (by rw [ent_len]; show min i 14 + 1 ≤ 1000; omega)), ?_⟩
          rw [put_in (g := V.str) (List.mem_append.mpr (.inr (List.mem_singleton.mpr rfl)))]
          have epp : put (put f e g0) e g1 = put f e g1 := by funext x; unfold put; split <;> rfl
          rw [epp]
          exact ⟨_, _, _, _, put f e g1, rfl, by rw [upd_same, et], okf g1 hg1, fun b o hb z => by rw [upd_ne hb]; exact k9 b o hb z⟩
        · exact ⟨_, _, _, _, put f e g0, rfl, by rw [et]; exact hD10, okf g0 hg0, k9⟩
      · rintro τ H7 ⟨v10, v11, v12, v13, f, rfl, hD7, hf, k7⟩
        exact ⟨_, _, _, _, f, rfl, hD7, hf, k7⟩
    rintro τ H7 ⟨v10, v11, v12, v13, f, rfl, hD7, hf, k7⟩
    exact ⟨_, rfl, k H7 D f (fun b o z => k7 b o (ne_of_none z fD) ((s5.trans s56) b o z)) fD hD7 hf⟩
end
end K16

namespace K16
open PySem L2 SI CM BK OWN MIR StX TX TL
section
variable {w : World} {K : PySem.W.Frag} {mg : Str → Option Value} {base : Heap} (T : Txt w K mg)
/-- the terms of a book: its table, its way to end, its kept versions -/
def TermsAt (H : Hp) (p t : Addr) (f : Str → Str) (r : Str) (k : Nat) : Prop := H p = some (.tup [.ref t, .str r, .int (k : Int)]) ∧ H t = some (.dK (tabS ENT f)) ∧ Gd f r (k : Int) ∧ 1 ≤ k ∧ k ≤ 20
theorem TermsAt.same {H H' : Hp} {p t : Addr} {f : Str → Str} {r : Str} {k : Nat} (h : TermsAt H p t f r k) (s : Same H H') : TermsAt H' p t f r k := ⟨s _ _ h.1, s _ _ h.2.1, h.2.2⟩
def spTerms (K : PySem.W.Frag) : Sp := fun vs H Q _ => ∃ (a : Addr) (ns : List Int), vs = [.ref a] ∧ SqL K H a (ns.map V.int) ∧ ns.length ≤ 63 ∧ ∀ (H' : Hp) (p t : Addr) (f : Str → Str) (r : Str) (k : Nat), Same H H' → H p = none → H t = none → TermsAt H' p t f r k → Q (.ref p) H'
theorem sq_butD {K : PySem.W.Frag} {H H' : Hp} {a D : Addr} {xs : List V} (h : SqL K H a xs) (n : H D = none) (k : ∀ b o, b ≠ D → H b = some o → H' b = some o) : SqL K H' a xs := by
  rcases h with (h | ⟨o, h⟩) | h
  · exact .inl (.inl (k _ _ (ne_of_none h n) h))
  · exact .inl (.inr ⟨o, k _ _ (ne_of_none h n) h⟩)
  · exact .inr h
theorem ok_terms : FnOk PP w K mg base CX0 3 T.f_law_terms T.d_law_terms ["_law_script"] (spTerms K) := by
  refine T.F_law_terms.ok sc_law_terms (fun vs H Q E h => ?_) (fun cdv A outer s H vs Q E hr h => ?_)
  · obtain ⟨a, ns, rfl, _⟩ := h
    rfl
  · obtain ⟨a, ns, rfl, hS, hl, kk⟩ := h
    refine ⟨_, pss_cons (ps_set (i := 1) sc_law_terms.nd rfl (.inl rfl) (pe_call (ok_cell T) (hr.mono (by decide)) (by rfl) T.g_law_cell T.F_law_cell.kp (b_law_cell T) .nil pass0 (pa_cons (pv 0) (pa_cons pe_int pa_nil))))
 (pss_cons (ps_set (i := 2) sc_law_terms.nd rfl (.inl rfl) (pe_ix ix_list (pe_lst (pa_cons pe_str (pa_cons pe_str pa_nil))) (pe_op op_mod (pe_callTy call_int1 (by rfl) T.n_int (by decide +kernel) (pa_cons (pv 1) pa_nil)) pe_int) (fun _ _ => rfl)))
 (pss_cons (ps_set (i := 3) sc_law_terms.nd rfl (.inl rfl) (pe_op op_mod (pe_callTy call_int1 (by rfl) T.n_int (by decide +kernel) (pa_cons (pe_op op_fdiv (pv 1) pe_int) pa_nil)) pe_int))
 (pss_cons (ps_set (i := 4) sc_law_terms.nd rfl (.inl rfl) (pe_ix ix_list (pe_lst (pa_cons pe_int (pa_cons pe_int (pa_cons pe_int (pa_cons pe_int (pa_cons pe_int pa_nil)))))) (pe_op op_mod (pe_callTy call_int1 (by rfl) T.n_int (by decide +kernel) (pa_cons (pe_op op_fdiv (pv 1) pe_int) pa_nil)) pe_int) (fun _ _ => rfl)))
 (pss_cons (ps_set (i := 5) sc_law_terms.nd rfl (.inl rfl) (pe_call (ok_table T) (hr.mono (by decide)) (by rfl) T.g_law_table T.F_law_table.kp (b_law_table T) .nil pass0 (pa_cons (pe_call (ok_cell T) (hr.mono (by decide)) (by rfl) T.g_law_cell T.F_law_cell.kp (b_law_cell T) .nil pass0 (pa_cons (pv 0) (pa_cons pe_int pa_nil))) pa_nil)))
 (C8.pss_cut (ps_if (pt_cmpR op_in_seq (pv 3) (pe_lst (pa_cons pe_int (pa_cons pe_int pa_nil))) rfl)
 (pss_one (ps_set (i := 5) sc_law_terms.nd rfl (.inl rfl) (pe_call (ok_sound T) (hr.mono (by decide)) (by rfl) T.g_law_sound T.F_law_sound.kp (b_law_sound T) .nil pass0 (pa_cons (pe_call (ok_cell T) (hr.mono (by decide)) (by rfl) T.g_law_cell T.F_law_cell.kp (b_law_cell T) .nil pass0 (pa_cons (pv 0) (pa_cons pe_int pa_nil))) (pa_cons (pv 2) (pa_cons (pv 4) pa_nil))))))
 pss_nil)
 (C8.pss_cut (ps_if (pt_cmpR op_eq (pv 3) pe_int (nomark _))
 (pss_cons (ps_set (i := 6) sc_law_terms.nd rfl (.inl rfl) (pe_ix ix_list (pe_call0 (ok_entries T) (hr.mono (by decide)) (by rfl) T.g_law_entries T.F_law_entries.kp (b_law_entries T) .nil pass0) (pe_op op_mod (pe_callTy call_int1 (by rfl) T.n_int (by decide +kernel) (pa_cons (pe_op op_fdiv (pv 1) pe_int) pa_nil)) pe_int) (fun _ _ => rfl)))
 (pss_cons (ps_set (i := 7) sc_law_terms.nd rfl (.inl rfl) (pe_call (ok_choices T) (hr.mono (by decide)) (by rfl) T.g_law_choices T.F_law_choices.kp (b_law_choices T) .nil pass0 (pa_cons (pv 6) pa_nil)))
 (pss_one (ps_dput (hu_of hr) (pv 5) (pv 6) (pe_ix ix_list (pv 7) (pe_op op_mod (pe_callTy call_int1 (by rfl) T.n_int (by decide +kernel) (pa_cons (pe_op op_fdiv (pv 1) pe_int) pa_nil)) (pe_callB call_len_seq (by rfl) T.n_len PySem.boot_len (pa_cons (pv 7) pa_nil))) (fun _ _ => rfl)) rfl))))
 pss_nil)
 (pss_one (ps_ret (pe_tup (pa_cons (pv 5) (pa_cons (pv 2) (pa_cons (pv 4) pa_nil)))))))))))), ?_⟩
    have p2 : (0 : Int) < 2 := by decide
    have p4 : (0 : Int) < 4 := by decide
    have p5 : (0 : Int) < 5 := by decide
    have p14 : (0 : Int) < 14 := by decide
    have two : 2 ≤ sizeLine := by decide
    have three : 3 ≤ sizeLine := by decide
    have five : 5 ≤ sizeLine := by decide
    refine ⟨_, rfl, a, ns, 0, rfl, hS, hl, two, fun t1 n1 => ?_⟩
    generalize ns.getD 0 0 = c
    have s1 := same_new (o := .lst [.str "now", .str "after"]) (Same.refl H) n1
    have h1 : (upd H t1 (.lst [.str "now", .str "after"])) t1 = some (.lst [.str "now", .str "after"]) := upd_same
    generalize upd H t1 (.lst [.str "now", .str "after"]) = H1 at s1 h1
    have m0 := Int.emod_nonneg c (Int.ne_of_gt p2)
    have m1 := Int.emod_lt_of_pos c p2
    obtain ⟨r, er, hr2⟩ : ∃ r : Str, atI [V.str "now", V.str "after"] (c % 2) = some (.str r) ∧ isEnds (.str r) := by
      obtain ⟨j, hj⟩ := Int.eq_ofNat_of_zero_le m0
      rw [hj]
      match j, (show j < 2 by omega) with
      | 0, _ => exact ⟨_, rfl, .inl rfl⟩
      | 1, _ => exact ⟨_, rfl, .inr rfl⟩
    refine ⟨_, rfl, .inl ⟨_, rfl, _, _, rfl, rfl, p2, t1, _, _, _, rfl, rfl, SqL.of h1, er, ?_⟩⟩
    refine ⟨_, rfl, _, _, rfl, rfl, ⟨by decide, by decide⟩, .inl ⟨_, rfl, _, _, rfl, rfl, p4, ?_⟩⟩
    refine ⟨five, fun t2 n2 => ?_⟩
    have s2 := same_new (o := .lst [.int 1, .int 2, .int 3, .int 20, .int 5]) s1 n2
    have h2 : (upd H1 t2 (.lst [.int 1, .int 2, .int 3, .int 20, .int 5])) t2 = some (.lst [.int 1, .int 2, .int 3, .int 20, .int 5]) := upd_same
    generalize upd H1 t2 (.lst [.int 1, .int 2, .int 3, .int 20, .int 5]) = H2 at s2 h2
    have m2 := Int.emod_nonneg (c / 8) (Int.ne_of_gt p5)
    have m3 := Int.emod_lt_of_pos (c / 8) p5
    obtain ⟨k, ek, k1, k20⟩ : ∃ k : Nat, atI [V.int 1, V.int 2, V.int 3, V.int 20, V.int 5] (c / 8 % 5) = some (.int (k : Int)) ∧ 1 ≤ k ∧ k ≤ 20 := by
      obtain ⟨j, hj⟩ := Int.eq_ofNat_of_zero_le m2
      rw [hj]
      match j, (show j < 5 by omega) with
      | 0, _ => exact ⟨1, rfl, by decide, by decide⟩
      | 1, _ => exact ⟨2, rfl, by decide, by decide⟩
      | 2, _ => exact ⟨3, rfl, by decide, by decide⟩
      | 3, _ => exact ⟨20, rfl, by decide, by decide⟩
      | 4, _ => exact ⟨5, rfl, by decide, by decide⟩
    refine ⟨_, rfl, _, _, rfl, rfl, ⟨by decide, by decide⟩, .inl ⟨_, rfl, _, _, rfl, rfl, p5, t2, _, _, _, rfl, rfl, SqL.of h2, ek, ?_⟩⟩
    refine ⟨_, rfl, a, ns, 1, rfl, s2.seq hS, hl, _, rfl, fun H3 D0 f0 s3 nD0 hD0 hf0 => ?_⟩
    have s23 := s2.trans s3
    refine ⟨fun τ H' => ∃ (D : Addr) (f : Str → Str), τ = [some (.ref a), some (.int c), some (.str r), some (.int (c / 2 % 4)), some (.int (k : Int)), some (.ref D), none, none] ∧ Same H H' ∧ H D = none ∧ H' D = some (.dK (tabS ENT f)) ∧ ∀ e ∈ ENT, f e ∈ chs e, ?_, ?_⟩
    · refine ⟨_, rfl, two, fun t nt => ⟨t, _, rfl, .inl (SqL.of upd_same), rfl, rfl, _, rfl, ?_⟩⟩
      have s4 := same_new (o := .lst [.int 1, .int 2]) s23 nt
      cases inV (V.int (c / 2 % 4)) [V.int 1, V.int 2] with
      | true => exact iteT ⟨_, rfl, a, ns, 1, rfl, s4.seq hS, hl, _, rfl, _, rfl, _, _, r, rfl, fun H5 D f s5 nD hD hf => ⟨D, f, rfl, s4.trans s5, s4.free nD, hD, hf⟩⟩
      | false => exact iteF ⟨D0, f0, rfl, s4, s2.free nD0, kp nt hD0, hf0⟩
    rintro τ H4 ⟨D, f, rfl, s4, nD, hD, hf⟩
    have fin : ∀ (H5 : Hp) (D' : Addr) (f' : Str → Str), (∀ b o, b ≠ D → H4 b = some o → H5 b = some o) → H5 D = some (.dK (tabS ENT f')) → (∀ e ∈ ENT, f' e ∈ chs e) → Same H H5 := fun H5 D' f' b _ _ => fun x o z => b x o (ne_of_none z nD) (s4 x o z)
    refine ⟨fun τ H' => ∃ (v6 v7 : Option V) (f' : Str → Str), τ = [some (.ref a), some (.int c), some (.str r), some (.int (c / 2 % 4)), some (.int (k : Int)), some (.ref D), v6, v7] ∧ (∀ b o, b ≠ D → H4 b = some o → H' b = some o) ∧ H' D = some (.dK (tabS ENT f')) ∧ ∀ e ∈ ENT, f' e ∈ chs e, ?_, ?_⟩
    · refine ⟨_, rfl, rfl, _, rfl, ?_⟩
      cases decide (V.int (c / 2 % 4) = V.int 2) with
      | false => exact iteF ⟨none, none, f, rfl, fun _ _ _ z => z, hD, hf⟩
      | true =>
        refine iteT ⟨rfl, fun H5 N s5 nN hN => ?_⟩
        have m4 := Int.emod_nonneg (c / 40) (Int.ne_of_gt p14)
        have m5 := Int.emod_lt_of_pos (c / 40) p14
        obtain ⟨e, he, eE⟩ : ∃ e : Str, atI (ENT.map V.str) (c / 40 % 14) = some (.str e) ∧ e ∈ ENT := by
          obtain ⟨j, hj⟩ := Int.eq_ofNat_of_zero_le m4
          have hj2 : j < ENT.length := by rw [ent_len]; omega
          rw [hj]
          exact ⟨ENT[j], atI_nat (by rw [List.getElem?_map, List.getElem?_eq_getElem hj2]; rfl), List.getElem_mem hj2⟩
        refine ⟨_, rfl, _, _, rfl, rfl, ⟨by decide, by decide⟩, .inl ⟨_, rfl, _, _, rfl, rfl, p14, N, _, _, _, rfl, rfl, SqL.of hN, he, ?_⟩⟩
        refine ⟨_, rfl, _, rfl, fun H6 P s6 nP hP => ?_⟩
        have cl := chs_len e
        have pg : (0 : Int) < (((chs e).map V.str).length : Nat) := by rw [List.length_map]; omega
        have m6 := Int.emod_nonneg (c / 560) (Int.ne_of_gt pg)
        have m7 := Int.emod_lt_of_pos (c / 560) pg
        obtain ⟨g, eg, hg⟩ : ∃ g : Str, atI ((chs e).map V.str) (c / 560 % ((((chs e).map V.str).length : Nat) : Int)) = some (.str g) ∧ g ∈ chs e := by
          obtain ⟨j, hj⟩ := Int.eq_ofNat_of_zero_le m6
          have hj2 : j < (chs e).length := by rw [hj, List.length_map] at m7; omega
          rw [hj]
          exact ⟨(chs e)[j], atI_nat (by rw [List.getElem?_map, List.getElem?_eq_getElem hj2]; rfl), List.getElem_mem hj2⟩
        have s56 := s5.trans s6
        refine ⟨_, rfl, _, rfl, _, _, rfl, rfl, ⟨by decide, by decide⟩, .inl ⟨_, rfl, _, rfl, P, _, rfl, .inl (SqL.of hP), _, _, rfl, rfl, pg, P, _, _, _, rfl, rfl, SqL.of hP, eg, ?_⟩⟩
        refine ⟨_, rfl, _, rfl, D, _, rfl, DPut.k (k := Sum.inr e) (s56 _ _ hD) (by rw [tab_len]; exact small1000 (by decide)), ?_⟩
        rw [put_in (g := V.str) eE]
        refine ⟨_, _, put f e g, rfl, fun b o hb z => by rw [upd_ne hb]; exact s56 _ _ z, upd_same, fun e' he' => ?_⟩
        by_cases q : e' = e
        · rw [q, put_same]; exact hg
        · rw [put_ne q]; exact hf e' he'
    rintro τ H5 ⟨v6, v7, f', rfl, b5, hD5, hf5⟩
    have s5 := fin H5 D f' b5 hD5 hf5
    have kv : keepV (.int (k : Int)) = true := by
      show (decide ((1 : Int) ≤ (k : Int)) && decide ((k : Int) ≤ 20)) = true
      rw [decide_eq_true (by omega), decide_eq_true (by omega)]; rfl
    exact ⟨_, rfl, _, rfl, _, rfl, three, fun p np => kk _ p D f' r k (same_new s5 np) (s5.free np) nD ⟨upd_same, kp np hD5, ⟨hr2, kv, hf5⟩, k1, k20⟩⟩
end
end K16

namespace K16
open PySem L2 SI CM BK OWN MIR StX TX TL
section
variable {w : World} {K : PySem.W.Frag} {mg : Str → Option Value} {base : Heap} (T : Txt w K mg)
abbrev VN (m : Nat) : V := .int (m : Int)
/-- ascending marks -/
def MarksOk (ms : List Nat) : Prop := ms.Pairwise (· < ·) ∧ ∀ m ∈ ms, 1 ≤ m ∧ m ≤ 6 * 10 ^ 28
def spMarks : Sp := fun vs H Q _ => ∃ (c : Int) (n : Nat), vs = [.int c, .int (n : Int)] ∧ n ≤ 6 ∧
  ∀ (H' : Hp) (p : Addr) (ms : List Nat), Same H H' → H p = none → H' p = some (.lst (ms.map VN)) → ms.length = n → MarksOk ms → Q (.ref p) H'
def gaps : List Nat := [1, 1, 2, 7, 93, 10 ^ 12, 10 ^ 28]
theorem gap_in {g : Nat} (h : g ∈ gaps) : 1 ≤ g ∧ g ≤ 10 ^ 28 := by
  simp only [gaps, List.mem_cons, List.not_mem_nil, or_false] at h
  rcases h with rfl | rfl | rfl | rfl | rfl | rfl | rfl
  all_goals exact ⟨by decide, by decide⟩
theorem ok_marks : FnOk PP w K mg base CX0 2 T.f_law_marks T.d_law_marks ["_law_cell_here", "_law_many"] spMarks := by
  refine T.F_law_marks.ok sc_law_marks (fun vs H Q E h => ?_) (fun cdv A outer s H vs Q E hr h => ?_)
  · obtain ⟨c, n, rfl, _⟩ := h
    rfl
  · obtain ⟨c, n, rfl, hn, k⟩ := h
    refine ⟨_, pss_cons (ps_set (i := 2) sc_law_marks.nd rfl (.inl rfl) (pe_lst (pa_cons pe_int (pa_cons pe_int (pa_cons pe_int (pa_cons pe_int (pa_cons pe_int (pa_cons (pe_op op_pow pe_int pe_int) (pa_cons (pe_op op_pow pe_int pe_int) pa_nil)))))))))
 (pss_cons (ps_set (i := 3) sc_law_marks.nd rfl (.inl rfl) (pe_lst pa_nil))
 (pss_cons (ps_set (i := 4) sc_law_marks.nd rfl (.inl rfl) pe_int)
 (pss_cons (ps_for PassesOwn.never rfl (pi_list (pe_call (ok_row T) (hr.mono (by decide)) (by rfl) T.g_law_row T.F_law_row.kp (b_law_row T) .nil pass0 (pa_cons (pv 0) (pa_cons (pv 1) (pa_cons pe_int pa_nil))))) (pg_name (i := 5) sc_law_marks.nd rfl (.inl rfl))
 (pss_cons (ps_set (i := 4) sc_law_marks.nd rfl (.inl rfl) (pe_op op_add (pv 4) (pe_ix ix_list (pv 2) (pv 5) (fun _ _ => rfl))))
 (pss_one (ps_expr (pe_bm PySem.F.plainAttrs_list PySem.F.slot_list_append PySem.F.type_list_append mt_append (pv 3) (pa_cons (pv 4) pa_nil))))))
 (pss_one (ps_ret (pv 3)))))), ?_⟩
    refine ⟨_, _, rfl, rfl, ⟨by decide, by decide, by decide⟩, _, _, rfl, rfl, ⟨by decide, by decide, by decide⟩, by show 7 ≤ sizeLine; decide, fun G nG => ⟨Nat.zero_le _, fun M nM => ?_⟩⟩
    have hG0 : (upd H G (.lst [.int 1, .int 1, .int 2, .int 7, .int 93, .int ((10 : Int) ^ (12 : Int).toNat), .int ((10 : Int) ^ (28 : Int).toNat)])) G = some (.lst (gaps.map VN)) := by
      rw [upd_same]
      rfl
    have hM0 : H M = none := (same_new (Same.refl H) nG).free nM
    refine ⟨_, rfl, _, rfl, c, n, 7, rfl, by decide, by decide, by omega, fun H2 p ds s2 np hp hl hd => ?_⟩
    have hMp : M ≠ p := fun e => by rw [← e, upd_same] at np; cases np
    have hMG : M ≠ G := fun e => by rw [e, upd_same] at nM; cases nM
    have sm2 : Same H H2 := (same_new (same_new (Same.refl H) nG) nM).trans s2
    refine ⟨p, rfl, ⟨_, SqL.of hp⟩, for_list (K := K) (a := p) (xs := ds.map V.int) (fun i σ H' => ∃ (ms : List Nat) (mk : Nat) (v5 : Option V), ms.length = i ∧ ms.Pairwise (· < ·) ∧ (∀ m ∈ ms, 1 ≤ m ∧ m ≤ mk) ∧ mk ≤ i * 10 ^ 28 ∧ H' p = some (.lst (ds.map V.int)) ∧ H' G = some (.lst (gaps.map VN)) ∧ H' M = some (.lst (ms.map VN)) ∧ Same H H' ∧
      σ = [some (.int c), some (.int (n : Int)), some (.ref G), some (.ref M), some (VN mk), v5])
      ⟨[], 0, none, rfl, List.Pairwise.nil, (fun _ h => by cases h), Nat.zero_le _, hp, s2 _ _ (kp nM hG0), s2 _ _ upd_same, sm2, rfl⟩ (fun i σ H' _ ⟨_, _, _, _, _, _, _, z, _⟩ => SqL.of z) ?_ ?_⟩
    · rintro i x σ H' hi ⟨ms, mk, v5, h1, hp2, h2, h3, h4, h5, h6, sm, rfl⟩
      obtain ⟨d, hd1, rfl⟩ := ints_at hi
      obtain ⟨d0, d7⟩ := hd d (List.mem_of_getElem? hd1)
      obtain ⟨j, rfl⟩ := Int.eq_ofNat_of_zero_le d0
      have hj : j < gaps.length := by show j < 7; omega
      obtain ⟨g1, g2⟩ := gap_in (List.getElem_mem hj)
      have hat : (gaps.map VN)[j]? = some (VN gaps[j]) := by rw [List.getElem?_map, List.getElem?_eq_getElem hj] <;> rfl
      have hi6 : i < 6 := by have := (List.getElem?_eq_some_iff.mp hd1).1; omega
      refine ⟨_, rfl, _, rfl, _, rfl, G, _, _, _, rfl, rfl, SqL.of h5, atI_nat hat, _, _, rfl, rfl, ?_⟩
      have hb : mk + gaps[j] ≤ (i + 1) * 10 ^ 28 := by
        have e : (i + 1) * 10 ^ 28 = i * 10 ^ 28 + 10 ^ 28 := by rw [Nat.add_mul, Nat.one_mul]
        omega
      refine ⟨_, rfl, .inl ⟨rfl, _, SqL.of h6⟩, _, rfl, M, _, _, rfl, rfl, h6, small1000 (by rw [List.length_map]; omega), ms ++ [mk + gaps[j]], mk + gaps[j], _, by simp [h1], ?_, fun m hm => ?_, hb, ?_, ?_, ?_, ?_, rfl⟩
      · refine List.pairwise_append.mpr ⟨hp2, List.pairwise_singleton _ _, fun a ha b hb => ?_⟩
        rw [List.mem_singleton.mp hb]
        have := (h2 a ha).2
        omega
      · rcases List.mem_append.mp hm with h | h
        · have := h2 m h; omega
        · rw [List.mem_singleton.mp h]
          omega
      · rw [upd_ne hMp.symm]
        exact h4
      · rw [upd_ne hMG.symm]
        exact h5
      · rw [upd_same, List.map_append]
        rfl
      · intro b o z
        rw [upd_ne (ne_of_none z hM0)]
        exact sm b o z
    · rintro σ H' ⟨ms, mk, v5, h1, hp2, h2, h3, h4, h5, h6, sm, rfl⟩
      refine ⟨_, rfl, k H' M ms sm hM0 h6 (by rw [h1, List.length_map, hl]) ⟨hp2, fun m hm => ?_⟩⟩
      have := h2 m hm
      rw [List.length_map, hl] at h3
      have e : n * 10 ^ 28 ≤ 6 * 10 ^ 28 := Nat.mul_le_mul_right _ hn
      omega
theorem sig_len : (TL.tl SIG).length = 36 := by decide +kernel
theorem join_ones : ∀ cs : List Nat, joinL [] (cs.map fun c => [c]) = cs
  | [] => rfl
  | [c] => rfl
  | c :: d :: r => by
    have ih := join_ones (d :: r)
    show [c] ++ ([] ++ joinL [] ((d :: r).map fun c => [c])) = c :: d :: r
    rw [ih]; rfl
/-- a name of an item -/
def NmOk (z : Str) : Prop := 1 ≤ z.length ∧ z.length ≤ 8 ∧ ∀ c ∈ TL.tl z, c ∈ TL.tl SIG
theorem NmOk.name {z : Str} (h : NmOk z) : nameV (.str z) = true := by
  show (decide (1 ≤ z.length) && (decide (z.length ≤ 8) && (TL.tl z).all fun c => decide (c ∈ TL.tl SIG))) = true
  rw [decide_eq_true h.1, decide_eq_true h.2.1, List.all_eq_true.mpr fun c hc => decide_eq_true (h.2.2 c hc)]
  rfl
def spNames : Sp := fun vs H Q _ => ∃ c : Int, vs = [.int c] ∧ ∀ (H' : Hp) (p : Addr) (a b : Str), Same H H' → H p = none → H' p = some (.lst [.str a, .str b]) → NmOk a → NmOk b → a ≠ b → Q (.ref p) H'
def sgA (d : Int) : Nat := (atI (TL.tl SIG) d).getD 0
def sgS (L : List Int) : List Str := L.map fun d => (⟨#[sgA d]⟩ : Str)
def nmA (c : Int) : Str := Txt.join (Str.ofString "") (sgS ((rowF c 9 36).take (1 + (c % 7).toNat)))
def nmB (c : Int) : Str := nmA c ++ (⟨#[sgA ((rowF c 9 36).getD 8 0)]⟩ : Str)
def spNamesD : Sp := fun vs H Q _ => ∃ c : Int, vs = [.int c] ∧ ∀ (H' : Hp) (p : Addr), Same H H' → H p = none → H' p = some (.lst [.str (nmA c), .str (nmB c)]) → NmOk (nmA c) → NmOk (nmB c) → nmA c ≠ nmB c → Q (.ref p) H'
theorem ok_namesD : FnOk PP w K mg base CX0 2 T.f_law_names T.d_law_names ["_law_cell_here"] spNamesD := by
  refine T.F_law_names.ok sc_law_names (fun vs H Q E h => ?_) (fun cdv A outer s H vs Q E hr h => ?_)
  · obtain ⟨c, rfl, _⟩ := h
    rfl
  · obtain ⟨c, rfl, k⟩ := h
    refine ⟨_, pss_cons (ps_set (i := 1) sc_law_names.nd rfl (.inr rfl) pe_str)
 (pss_cons (ps_set (i := 2) sc_law_names.nd rfl (.inl rfl) (pe_call (ok_rowD T) (hr.mono (by decide)) (by rfl) T.g_law_row T.F_law_row.kp (b_law_row T) .nil pass0 (pa_cons (pv 0) (pa_cons pe_int (pa_cons pe_int pa_nil)))))
 (pss_cons (ps_set (i := 4) sc_law_names.nd rfl (.inl rfl) (pe_join pe_str (pe_lc (own := [("_law_k", 3)]) (g := gName 3) (tt := tYes) (by rfl) sc_law_names.nd (pi_list (pe_slice sl_list (pv 2) po_none (po_some (pe_op op_add pe_int (pe_op op_mod (pe_callTy call_int1 (by rfl) T.n_int (by decide +kernel) (pa_cons (pv 0) pa_nil)) pe_int))))) (blkOk_by (N := ["_law_cell_here", "_law_signs", "_law_draws", "_law_k", "_law_first"]) (sc := defScope s_law_names) (by decide +kernel)) (fun _ _ _ _ _ => pg_name (i := 3) sc_law_names.nd rfl (Or.inl rfl)) (fun _ _ _ _ _ => pts_nil) (fun _ _ _ _ _ => (pe_ix ix_str (pv 1) (pv 3) (fun _ _ => rfl))))))
 (pss_one (ps_ret (pe_lst (pa_cons (pv 4) (pa_cons (pe_op op_add_str (pv 4) (pe_ix ix_str (pv 1) (pe_ix ix_list (pv 2) pe_int (fun _ _ => rfl)) (fun _ _ => rfl))) pa_nil))))))), ?_⟩
    have p7 : (0 : Int) < 7 := by decide
    have two : 2 ≤ sizeLine := by decide
    have sgl : SIG.length ≤ sizeLine := by rw [TL.len_tl, sig_len]; decide
    refine ⟨_, rfl, c, 9, 36, rfl, by decide, by decide, by decide, fun H1 p s1 np hp hl hd => ?_⟩
    generalize eds : rowF c 9 36 = ds at hp hl hd
    have at_ : ∀ d : Int, d ∈ ds → atI (TL.tl SIG) d = some (sgA d) ∧ sgA d ∈ TL.tl SIG := by
      intro d hm
      obtain ⟨d0, d1⟩ := hd d hm
      obtain ⟨j, rfl⟩ := Int.eq_ofNat_of_zero_le d0
      have hj : j < (TL.tl SIG).length := by rw [sig_len]; omega
      have e : atI (TL.tl SIG) (j : Int) = some ((TL.tl SIG)[j]) := atI_nat (List.getElem?_eq_getElem hj)
      have e2 : sgA (j : Int) = (TL.tl SIG)[j] := by unfold sgA; rw [e]; rfl
      rw [e2]; exact ⟨e, List.getElem_mem hj⟩
    refine ⟨⟨_, rfl⟩, _, rfl, _, rfl, .inl ⟨_, rfl, _, _, rfl, rfl, p7, _, _, rfl, rfl, _, rfl, p, _, rfl, SqL.of hp, fun S nS => ?_⟩⟩
    have m0 := Int.emod_nonneg c (Int.ne_of_gt p7)
    have m1 := Int.emod_lt_of_pos c p7
    obtain ⟨q, hq⟩ := Int.eq_ofNat_of_zero_le m0
    have cl : (cutV (ds.map V.int) none (some (1 + c % 7))).length = 1 + q := by
      unfold cutV
      rw [HT.sIx_none, hq, show (1 : Int) + (q : Int) = ((1 + q : Nat) : Int) by omega, HT.sIx_nat, List.length_take, List.length_drop, List.length_map, hl]
      omega
    have ecut : cutV (ds.map V.int) none (some (1 + c % 7)) = (ds.take (1 + q)).map V.int := by
      unfold cutV
      rw [HT.sIx_none, hq, show (1 : Int) + (q : Int) = ((1 + q : Nat) : Int) by omega, HT.sIx_nat, List.drop_zero, List.length_map, hl, Nat.min_eq_left (by omega), Nat.sub_zero, List.map_take]
    refine ⟨S, rfl, ⟨_, SqL.of upd_same⟩, fun D nD => lc_list (K := K) (a := S) (xs := cutV (ds.map V.int) none (some (1 + c % 7)))
      (fun i H' => H' S = some (.lst (cutV (ds.map V.int) none (some (1 + c % 7)))) ∧ Same H1 H' ∧ ∃ cs : List Nat, cs.length = i ∧ (∀ z ∈ cs, z ∈ TL.tl SIG) ∧ H' D = some (.lst ((cs.map fun c => (⟨#[c]⟩ : Str)).map V.str)) ∧ cs = ((ds.take (1 + q)).take i).map sgA)
      ⟨kp nD upd_same, same_new (same_new (Same.refl H1) nS) nD, [], rfl, (fun _ h => by cases h), upd_same, rfl⟩ (fun i H' _ z => SqL.of z.1) ?_ ?_⟩
    · rintro i x H' hi ⟨hS, sm, cs, hy, hy1, hD, ecs⟩
      have hx : x ∈ ds.map V.int := List.mem_of_mem_drop (List.mem_of_mem_take (List.mem_of_getElem? hi))
      have hi2 := hi
      rw [ecut, List.getElem?_map] at hi2
      obtain ⟨d, hdq, hdx⟩ : ∃ d, (ds.take (1 + q))[i]? = some d ∧ x = V.int d := by
        cases e : (ds.take (1 + q))[i]? with
        | none => rw [e] at hi2; cases hi2
        | some d => rw [e] at hi2; exact ⟨d, rfl, (Option.some.inj hi2).symm⟩
      subst hdx
      have hdm : d ∈ ds := List.mem_of_mem_take (List.mem_of_getElem? hdq)
      obtain ⟨hch, hcm⟩ := at_ d hdm
      have hlt : i < (cutV (ds.map V.int) none (some (1 + c % 7))).length := (List.getElem?_eq_some_iff.mp hi).1
      refine ⟨rfl, ?_⟩
      refine ⟨_, rfl, _, rfl, SIG, d, sgA d, rfl, rfl, sgl, hch, _, hD, small1000 (by rw [List.length_map, List.length_map]; omega), ?_, ?_, cs ++ [sgA d], by simp [hy], fun y hm => ?_, ?_, by rw [List.take_add_one, hdq, List.map_append, ← ecs]; rfl⟩
      · rw [upd_ne (fun e => by rw [← e, upd_same] at nD; cases nD)]
        exact hS
      · intro b o z
        have hb : b ≠ D := ne_of_none (kp nS z) nD
        rw [upd_ne hb]
        exact sm b o z
      · rcases List.mem_append.mp hm with h | h
        · exact hy1 y h
        · rw [List.mem_singleton.mp h]; exact hcm
      · rw [upd_same, List.map_append, List.map_append]
        rfl
    · rintro H' ⟨hS, sm, cs, hy, hy1, hD, ecs⟩
      rw [cl] at hy
      have hy0 : ∀ y ∈ cs.map (fun c => (⟨#[c]⟩ : Str)), y.length ≤ 1 := fun y h => by obtain ⟨z, _, rfl⟩ := List.mem_map.mp h; exact Nat.le_refl 1
      have hsum := sum_len hy0
      rw [List.length_map] at hsum
      have tlj : TL.tl (Txt.join (Str.ofString "") (cs.map fun c => (⟨#[c]⟩ : Str))) = cs := by
        rw [join_eq, tl_join]
        have e : TL.tl (Str.ofString "") = [] := by decide +kernel
        rw [e, List.map_map]
        exact join_ones cs
      have e0 : (Str.ofString "").length = 0 := by decide +kernel
      refine ⟨Str.ofString "", D, cs.map (fun c => (⟨#[c]⟩ : Str)), rfl, rfl, .inl (SqL.of hD), ?_, ?_⟩
      · rw [e0]
        omega
      have hfl : (Txt.join (Str.ofString "") (cs.map fun c => (⟨#[c]⟩ : Str))).length = 1 + q := by rw [TL.len_tl, tlj, hy]
      have hok : NmOk (Txt.join (Str.ofString "") (cs.map fun c => (⟨#[c]⟩ : Str))) := ⟨by omega, by omega, fun z hz => hy1 z (by rw [tlj] at hz; exact hz)⟩
      have h8 : (8 : Nat) < ds.length := by omega
      have hat : (ds.map V.int)[8]? = some (.int ds[8]) := by rw [List.getElem?_map, List.getElem?_eq_getElem h8] <;> rfl
      obtain ⟨hch, hcm⟩ := at_ ds[8] (List.getElem_mem h8)
      have l2 : (Txt.join (Str.ofString "") (cs.map fun c => (⟨#[c]⟩ : Str)) ++ (⟨#[sgA ds[8]]⟩ : Str)).length = 1 + q + 1 := by
        rw [str_len_app, hfl]; rfl
      refine ⟨_, rfl, _, rfl, _, rfl, _, rfl, p, _, _, _, rfl, rfl, SqL.of (sm _ _ hp), atI_nat (j := 8) hat, SIG, _, sgA ds[8], rfl, rfl, sgl, hch, _, _, rfl, rfl, ?_, two, fun L nL => ?_⟩
      · rw [hfl]
        exact Nat.le_of_lt (small1000 (show 1 + q + 1 ≤ 1000 by omega))
      have eA : nmA c = Txt.join (Str.ofString "") (cs.map fun c => (⟨#[c]⟩ : Str)) := by
        unfold nmA sgS
        rw [eds, hq]
        show Txt.join _ ((ds.take (1 + q)).map fun d => (⟨#[sgA d]⟩ : Str)) = _
        have : (ds.take (1 + q)).take (cutV (ds.map V.int) none (some (1 + c % 7))).length = ds.take (1 + q) := List.take_of_length_le (by rw [cl, List.length_take]; omega)
        rw [this] at ecs
        rw [ecs, List.map_map]; rfl
      have eB : nmB c = Txt.join (Str.ofString "") (cs.map fun c => (⟨#[c]⟩ : Str)) ++ (⟨#[sgA ds[8]]⟩ : Str) := by
        unfold nmB
        rw [eA, eds]
        have : ds.getD 8 0 = ds[8] := by rw [List.getD_eq_getElem?_getD, List.getElem?_eq_getElem h8]; rfl
        rw [this]
      have k := k
      rw [eA, eB] at k
      refine k _ L ((s1.trans sm).trans (same_new (Same.refl H') nL)) ((s1.trans sm).free nL) upd_same hok ⟨by omega, by omega, fun z hz => ?_⟩ fun e => ?_
      · have : z ∈ TL.tl (Txt.join (Str.ofString "") (cs.map fun c => (⟨#[c]⟩ : Str))) ++ [sgA ds[8]] := by rw [← show TL.tl (Txt.join (Str.ofString "") (cs.map fun c => (⟨#[c]⟩ : Str)) ++ (⟨#[sgA ds[8]]⟩ : Str)) = _ ++ [sgA ds[8]] from tl_append _ _]; exact hz
        rcases List.mem_append.mp this with h | h
        · exact hok.2.2 z h
        · rw [List.mem_singleton.mp h]; exact hcm
      · have := congrArg Str.length e
        rw [l2, hfl] at this
        omega
theorem ok_names : FnOk PP w K mg base CX0 2 T.f_law_names T.d_law_names ["_law_cell_here"] spNames :=
  (ok_namesD T).imp fun vs H Q E ⟨c, e, k⟩ => ⟨c, e, fun H' p => k H' p (nmA c) (nmB c)⟩
end
end K16

namespace K16
open PySem L2 SI CM BK OWN MIR StX TX TL
section
variable {w : World} {K : PySem.W.Frag} {mg : Str → Option Value} {base : Heap} (T : Txt w K mg)
def spOne : Sp := fun vs H Q _ => ∃ c k b : Int, vs = [.int c, .int k, .int b] ∧ 0 < b ∧ b < 1000 ∧ ∀ H' d, Same H H' → 0 ≤ d → d < b → Q (.int d) H'
theorem ok_one : FnOk PP w K mg base CX0 2 T.f_law_one T.d_law_one ["_law_cell_here", "_law_k", "_law_base"] spOne := by
  refine T.F_law_one.ok sc_law_one (fun vs H Q E h => ?_) (fun cdv A outer s H vs Q E hr h => ?_)
  · obtain ⟨c, kk, b, rfl, _⟩ := h
    rfl
  · obtain ⟨c, kk, b, rfl, b0, b1, k⟩ := h
    refine ⟨_, pss_cons (ps_if (pt_cmpR op_ge (pv 0) (pe_op op_pow pe_int pe_int) (nomark _))
 (pss_one (ps_ret (pe_op op_mod (pe_callTy call_int1 (by rfl) T.n_int (by decide +kernel) (pa_cons (pv 0) pa_nil)) (pv 2))))
 pss_nil)
 (pss_one (ps_ret (pe_ix ix_list (pe_call (ok_row T) (hr.mono (by decide)) (by rfl) T.g_law_row T.F_law_row.kp (b_law_row T) .nil pass0 (pa_cons (pe_op op_add (pe_op op_mul (pv 0) pe_int) (pv 1)) (pa_cons pe_int (pa_cons (pv 2) pa_nil)))) pe_int (fun _ _ => rfl)))), ?_⟩
    refine ⟨_, rfl, _, _, rfl, rfl, ⟨by decide, by decide, by decide⟩, _, _, rfl, rfl, _, rfl, ?_⟩
    refine ite2 (fun _ => ?_) (fun _ => ?_)
    · exact ⟨_, rfl, .inl ⟨_, rfl, _, rfl, _, _, rfl, rfl, b0, k _ _ (Same.refl _) (Int.emod_nonneg _ (Int.ne_of_gt b0)) (Int.emod_lt_of_pos _ b0)⟩⟩
    · refine ⟨_, rfl, _, _, rfl, rfl, .inr ⟨by decide, by decide⟩, _, rfl, _, _, rfl, rfl, _, rfl, _, 1, b, rfl, b0, b1, by decide, fun H1 p ds s1 np hp hl hd => ?_⟩
      obtain ⟨d, rfl⟩ : ∃ d, ds = [d] := by
        match ds, hl with
        | [d], _ => exact ⟨d, rfl⟩
      have hd' := hd d (List.mem_singleton.mpr rfl)
      exact ⟨p, _, _, _, rfl, rfl, SqL.of hp, rfl, k _ _ s1 hd'.1 hd'.2⟩
abbrev KL8 : List Str := ["read", "write", "commit", "write", "read", "write", "read", "abort"]
abbrev KL9 : List Str := ["write", "read", "commit", "read", "write", "read", "write", "commit"]
abbrev KL : List Str := KL8 ++ KL9
/-- a step among these marks and names -/
def XIn (ms : List Nat) (nl : List Str) : Stp → Prop
  | .req k s n => k ∈ KINDS ∧ (∃ m ∈ ms, s = (m : Int)) ∧ n ∈ nl
  | .com s => ∃ m ∈ ms, s = (m : Int)
  | .abo s => ∃ m ∈ ms, s = (m : Int)
def StpsAt (H : Hp) : List V → List Stp → Prop := F2 fun v x => ∃ q, v = .ref q ∧ StpAt H q x
/-- a drawn run -/
structure RunIs (H : Hp) (p : Addr) (ws : List V) (xs : List Stp) (ms : List Nat) (nl : List Str) : Prop where
  at_ : H p = some (.lst ws)
  run : RunAt H ws xs
  ins : ∀ x ∈ xs, XIn ms nl x
  mks : MarksOk ms
  nms : ∀ n ∈ nl, NmOk n
theorem RunIs.same {H H' : Hp} {p : Addr} {ws : List V} {xs : List Stp} {ms : List Nat} {nl : List Str} (h : RunIs H p ws xs ms nl) (s : Same H H') : RunIs H' p ws xs ms nl := ⟨s _ _ h.at_, h.run.same s, h.ins, h.mks, h.nms⟩
theorem RunAt_T {H H' : Hp} (s : SameT H H') {vs : List V} {xs : List Stp} (h : RunAt H vs xs) : RunAt H' vs xs := F2.mono (fun a b ⟨q, e, z⟩ => ⟨q, e, by cases b <;> exact s _ _ trivial z⟩) h
theorem at_mod {α : Type} (g : α → V) {L : List α} (h : 0 < L.length) (x : Int) : ∃ v, v ∈ L ∧ atI (L.map g) (x % (((L.map g).length : Nat) : Int)) = some (g v) := by
  have p : (0 : Int) < (((L.map g).length : Nat) : Int) := by rw [List.length_map]; omega
  have m0 := Int.emod_nonneg x (Int.ne_of_gt p)
  have m1 := Int.emod_lt_of_pos x p
  obtain ⟨j, hj⟩ := Int.eq_ofNat_of_zero_le m0
  have hj2 : j < L.length := by rw [hj, List.length_map] at m1; omega
  exact ⟨L[j], List.getElem_mem hj2, by rw [hj]; exact atI_nat (by rw [List.getElem?_map, List.getElem?_eq_getElem hj2]; rfl)⟩
def spLSteps (K : PySem.W.Frag) : Sp := fun vs H Q _ => ∃ (a b c : Addr) (ds : List Int) (ms : List Nat) (nl : List Str), vs = [.ref a, .ref b, .ref c] ∧ H a = some (.lst (ds.map V.int)) ∧ H b = some (.lst (ms.map VN)) ∧ H c = some (.lst (nl.map V.str)) ∧ ds.length ≤ 300 ∧ 0 < ms.length ∧ ms.length ≤ 6 ∧ 0 < nl.length ∧ nl.length ≤ 2 ∧ MarksOk ms ∧ (∀ n ∈ nl, NmOk n) ∧
  ∀ (H' : Hp) (p : Addr) (ws : List V) (xs : List Stp), Same H H' → H p = none → RunIs H' p ws xs ms nl → xs.length = ds.length → Q (.ref p) H'
theorem ok_lsteps : FnOk PP w K mg base CX0 1 T.f_law_steps T.d_law_steps ["_law_draws", "_law_marks_here", "_law_names_here"] (spLSteps K) := by
  refine T.F_law_steps.ok sc_law_steps (fun vs H Q E h => ?_) (fun cdv A outer s H vs Q E hr h => ?_)
  · obtain ⟨a, b, c, ds, ms, nl, rfl, _⟩ := h
    rfl
  · obtain ⟨a, b, c, dl, ms, nl, rfl, ha, hb, hc, hl, hm0, hm6, hn0, hn2, hms, hnl, k⟩ := h
    refine ⟨_, pss_cons (ps_set (i := 3) sc_law_steps.nd rfl (.inl rfl) (pe_lst (pa_cons pe_str (pa_cons pe_str (pa_cons pe_str (pa_cons pe_str (pa_cons pe_str (pa_cons pe_str (pa_cons pe_str (pa_cons pe_str pa_nil))))))))))
 (pss_cons (ps_set (i := 3) sc_law_steps.nd rfl (.inl rfl) (pe_op op_cat (pv 3) (pe_lst (pa_cons pe_str (pa_cons pe_str (pa_cons pe_str (pa_cons pe_str (pa_cons pe_str (pa_cons pe_str (pa_cons pe_str (pa_cons pe_str pa_nil)))))))))))
 (C8.pss_cut (ps_set (i := 4) sc_law_steps.nd rfl (.inl rfl) (pe_lst pa_nil))
 (pss_cons (ps_for PassesOwn.never rfl (pi_list (pv 0)) (pg_name (i := 5) sc_law_steps.nd rfl (.inl rfl))
 (pss_cons (ps_set (i := 6) sc_law_steps.nd rfl (.inl rfl) (pe_ix ix_list (pv 3) (pe_op op_mod (pe_callTy call_int1 (by rfl) T.n_int (by decide +kernel) (pa_cons (pv 5) pa_nil)) pe_int) (fun _ _ => rfl)))
 (pss_cons (ps_set (i := 7) sc_law_steps.nd rfl (.inl rfl) (pe_ix ix_list (pv 1) (pe_op op_mod (pe_callTy call_int1 (by rfl) T.n_int (by decide +kernel) (pa_cons (pe_op op_fdiv (pv 5) pe_int) pa_nil)) (pe_callB call_len_seq (by rfl) T.n_len PySem.boot_len (pa_cons (pv 1) pa_nil))) (fun _ _ => rfl)))
 (pss_one (ps_if (pt_cmpR op_in_seq (pv 6) (pe_lst (pa_cons pe_str (pa_cons pe_str pa_nil))) rfl)
 (pss_one (ps_expr (pe_bm PySem.F.plainAttrs_list PySem.F.slot_list_append PySem.F.type_list_append mt_append (pv 4) (pa_cons (pe_tup (pa_cons (pv 6) (pa_cons (pv 7) (pa_cons (pe_ix ix_list (pv 2) (pe_op op_mod (pe_callTy call_int1 (by rfl) T.n_int (by decide +kernel) (pa_cons (pe_op op_fdiv (pv 5) (pe_op op_mul pe_int (pe_callB call_len_seq (by rfl) T.n_len PySem.boot_len (pa_cons (pv 1) pa_nil)))) pa_nil)) (pe_callB call_len_seq (by rfl) T.n_len PySem.boot_len (pa_cons (pv 2) pa_nil))) (fun _ _ => rfl)) pa_nil)))) pa_nil))))
 (pss_one (ps_expr (pe_bm PySem.F.plainAttrs_list PySem.F.slot_list_append PySem.F.type_list_append mt_append (pv 4) (pa_cons (pe_tup (pa_cons (pv 6) (pa_cons (pv 7) pa_nil))) pa_nil)))))))))
 (pss_one (ps_ret (pv 4)))))), ?_⟩
    have two : 2 ≤ sizeLine := by decide
    have three : 3 ≤ sizeLine := by decide
    have p16 : (0 : Int) < 16 := by decide
    refine ⟨(by decide : 8 ≤ sizeLine), fun t1 n1 => ?_⟩
    have s1 := same_new (o := .lst (KL8.map V.str)) (Same.refl H) n1
    have h1 : (upd H t1 (.lst (KL8.map V.str))) t1 = some (.lst (KL8.map V.str)) := upd_same
    refine ⟨_, rfl, (by decide : 8 ≤ sizeLine), fun t2 n2 => ⟨t1, t2, _, _, rfl, rfl, kp n2 h1, upd_same, (by decide : 8 + 8 ≤ sizeLine), fun W nW => ?_⟩⟩
    refine ⟨fun τ H' => ∃ D, τ = [some (.ref a), some (.ref b), some (.ref c), some (.ref W), some (.ref D), none, none, none] ∧ H' D = some (.lst []) ∧ H' W = some (.lst (KL.map V.str)) ∧ Same H H' ∧ H D = none, ?_, ?_⟩
    · refine ⟨Nat.zero_le _, fun D nD => ?_⟩
      have s2 := same_new (o := .lst (KL9.map V.str)) s1 n2
      have s3 := same_new (o := .lst (KL.map V.str)) s2 nW
      exact ⟨D, rfl, upd_same, kp nD upd_same, same_new s3 nD, s3.free nD⟩
    rintro τ H4 ⟨D, rfl, hD4, hW4, s4, fD⟩
    have WD : W ≠ D := fun z => by rw [z, hD4] at hW4; cases hW4
    refine ⟨_, rfl, a, rfl, ⟨_, SqL.of (s4 _ _ ha)⟩, ?_⟩
    refine for_list (xs := dl.map V.int) (fun i τ H' => ∃ (v5 v6 v7 : Option V) (ws : List V) (xs : List Stp), τ = [some (.ref a), some (.ref b), some (.ref c), some (.ref W), some (.ref D), v5, v6, v7] ∧ H' D = some (.lst ws) ∧ RunAt H' ws xs ∧ xs.length = i ∧ (∀ x ∈ xs, XIn ms nl x) ∧ (∀ b o, b ≠ D → H4 b = some o → H' b = some o))
      ⟨none, none, none, [], [], rfl, hD4, .nil, rfl, (fun x h => by cases h), fun _ _ _ z => z⟩ (fun i τ H' _ ⟨_, _, _, _, _, _, _, _, _, _, k4⟩ => SqL.of (k4 _ _ (ne_of_none ha fD) (s4 _ _ ha))) ?_ ?_
    · rintro i x τ H5 hx ⟨v5, v6, v7, ws, xs, rfl, hD, hrun, hxl, hin, k4⟩
      obtain ⟨d, hd, rfl⟩ := ints_at hx
      have hi : i < dl.length := (List.getElem?_eq_some_iff.mp hd).1
      have hW5 := k4 _ _ WD hW4
      have hb5 := k4 _ _ (ne_of_none hb fD) (s4 _ _ hb)
      have hc5 := k4 _ _ (ne_of_none hc fD) (s4 _ _ hc)
      obtain ⟨kd, hkd, ek⟩ := at_mod V.str (L := KL) (by decide) d
      obtain ⟨m, hm, em⟩ := at_mod VN hm0 (d / 16)
      obtain ⟨n, hn, en⟩ := at_mod V.str hn0 (d / (16 * (((ms.map VN).length : Nat) : Int)))
      have pm : (0 : Int) < (((ms.map VN).length : Nat) : Int) := by rw [List.length_map]; omega
      have pn : (0 : Int) < (((nl.map V.str).length : Nat) : Int) := by rw [List.length_map]; omega
      have lm : (((ms.map VN).length : Nat) : Int) ≤ 6 := by rw [List.length_map]; omega
      have lw : ws.length = i := by rw [hrun.len, hxl]
      refine ⟨_, rfl, _, rfl, .inl ⟨_, rfl, _, _, rfl, rfl, p16, W, _, _, _, rfl, rfl, SqL.of hW5, ek, ?_⟩⟩
      refine ⟨_, rfl, _, rfl, _, _, rfl, rfl, ⟨by decide, by decide⟩, .inl ⟨_, rfl, _, rfl, b, _, rfl, .inl (SqL.of hb5), _, _, rfl, rfl, pm, b, _, _, _, rfl, rfl, SqL.of hb5, em, ?_⟩⟩
      refine ⟨_, rfl, two, fun t nt => ⟨t, _, rfl, .inl (SqL.of upd_same), rfl, rfl, _, rfl, ?_⟩⟩
      rw [show inV (V.str kd) [V.str "read", V.str "write"] = decide (kd ∈ (["read", "write"] : List Str)) from inV_str kd ["read", "write"]]
      have s5 := same_new (o := .lst [.str "read", .str "write"]) (Same.refl H5) nt
      have Dt : D ≠ t := ne_of_none hD nt
      generalize upd H5 t (.lst [.str "read", .str "write"]) = H6 at s5
      have hD6 := s5 _ _ hD
      have addx : ∀ (y : Stp) (q : Addr) (H7 : Hp), Same H6 H7 → StpAt H7 q y → XIn ms nl y → (upd H7 D (.lst (ws ++ [.ref q]))) D = some (.lst (ws ++ [.ref q])) ∧ RunAt (upd H7 D (.lst (ws ++ [.ref q]))) (ws ++ [.ref q]) (xs ++ [y]) ∧ (xs ++ [y]).length = i + 1 ∧ (∀ x ∈ xs ++ [y], XIn ms nl x) ∧ (∀ b o, b ≠ D → H4 b = some o → (upd H7 D (.lst (ws ++ [.ref q]))) b = some o) := fun y q H7 s67 hy hin' => by
        have hD7 := s67 _ _ hD6
        have t8 : SameT H7 (upd H7 D (.lst (ws ++ [.ref q]))) := SameT.chg hD7 (fun z => z)
        refine ⟨upd_same, F2.snoc (RunAt_T t8 (hrun.same (s5.trans s67))) ⟨q, rfl, by cases y <;> exact t8 _ _ trivial hy⟩, by rw [List.length_append, hxl]; rfl, fun x hx => ?_, fun b o hb z => by rw [upd_ne hb]; exact s67 _ _ (s5 _ _ (k4 b o hb z))⟩
        rcases List.mem_append.mp hx with h | h
        · exact hin x h
        · rw [List.mem_singleton.mp h]; exact hin'
      by_cases c1 : kd ∈ (["read", "write"] : List Str)
      · rw [decide_eq_true c1]
        have hc6 := s5 _ _ hc5
        have hb6 := s5 _ _ hb5
        refine iteT ⟨_, rfl, .inl ⟨rfl, _, SqL.of hD6⟩, _, rfl, _, rfl, _, rfl, _, rfl, _, rfl, b, _, rfl, .inl (SqL.of hb6), _, _, rfl, rfl, .inl ⟨by decide, by decide⟩, _, _, rfl, rfl, ⟨by omega, by omega⟩, .inl ⟨_, rfl, _, rfl, c, _, rfl, .inl (SqL.of hc6), _, _, rfl, rfl, pn, c, _, _, _, rfl, rfl, SqL.of hc6, en, three, fun q nq => ?_⟩⟩
        have s67 := same_new (o := .tup [.str kd, VN m, .str n]) (Same.refl H6) nq
        obtain ⟨a1, a2, a3, a4, a5⟩ := addx (.req kd (m : Int) n) q _ s67 (show _ = _ from upd_same) ⟨c1, ⟨m, hm, rfl⟩, hn⟩
        exact ⟨_, _, _, rfl, rfl, kp nq hD6, small1000 (by omega), _, _, _, _, _, rfl, a1, a2, a3, a4, a5⟩
      · rw [decide_eq_false c1]
        refine iteF ⟨_, rfl, .inl ⟨rfl, _, SqL.of hD6⟩, _, rfl, _, rfl, two, fun q nq => ?_⟩
        have s67 := same_new (o := .tup [.str kd, VN m]) (Same.refl H6) nq
        have hk2 : kd = "commit" ∨ kd = "abort" := by
          have h1 : ∀ k ∈ KL, k ∉ (["read", "write"] : List Str) → k = "commit" ∨ k = "abort" := by decide +kernel
          exact h1 kd hkd c1
        rcases hk2 with rfl | rfl
        · obtain ⟨a1, a2, a3, a4, a5⟩ := addx (.com (m : Int)) q _ s67 (show _ = _ from upd_same) ⟨m, hm, rfl⟩
          exact ⟨_, _, _, rfl, rfl, kp nq hD6, small1000 (by omega), _, _, _, _, _, rfl, a1, a2, a3, a4, a5⟩
        · obtain ⟨a1, a2, a3, a4, a5⟩ := addx (.abo (m : Int)) q _ s67 (show _ = _ from upd_same) ⟨m, hm, rfl⟩
          exact ⟨_, _, _, rfl, rfl, kp nq hD6, small1000 (by omega), _, _, _, _, _, rfl, a1, a2, a3, a4, a5⟩
    · rintro τ H5 ⟨v5, v6, v7, ws, xs, rfl, hD, hrun, hxl, hin, k4⟩
      rw [List.length_map] at hxl
      exact ⟨_, rfl, k H5 D ws xs (fun x o z => k4 x o (ne_of_none z fD) (s4 x o z)) fD ⟨hD, hrun, hin, hms, hnl⟩ hxl⟩
end
end K16

namespace K16
open PySem L2 SI CM BK OWN MIR StX TX TL
section
variable {w : World} {K : PySem.W.Frag} {mg : Str → Option Value} {base : Heap} (T : Txt w K mg)
def spRun (K : PySem.W.Frag) : Sp := fun vs H Q _ => ∃ (a : Addr) (ns : List Int) (at_ : Nat), vs = [.ref a, .int (at_ : Int)] ∧ SqL K H a (ns.map V.int) ∧ ns.length ≤ 63 ∧ at_ ≤ 50 ∧
  ∀ (H' : Hp) (p : Addr) (ws : List V) (xs : List Stp) (ms : List Nat) (nl : List Str), Same H H' → H p = none → RunIs H' p ws xs ms nl → xs.length ≤ 100 → ms.length ≤ 6 → nl.length ≤ 2 → Q (.ref p) H'
def spRunD (K : PySem.W.Frag) : Sp := fun vs H Q _ => ∃ (a : Addr) (ns : List Int) (at_ : Nat), vs = [.ref a, .int (at_ : Int)] ∧ SqL K H a (ns.map V.int) ∧ ns.length ≤ 63 ∧ at_ ≤ 50 ∧
  ∀ (H' : Hp) (p : Addr) (ws : List V) (xs : List Stp) (ms : List Nat) (nl : List Str), Same H H' → H p = none → RunIs H' p ws xs ms nl → xs.length ≤ 100 → ms.length ≤ 6 → nl.length ≤ 2 → (∀ n ∈ nl, n = nmA (ns.getD at_ 0) ∨ n = nmB (ns.getD at_ 0)) → Q (.ref p) H'
theorem ok_runD : FnOk PP w K mg base CX0 3 T.f_law_run T.d_law_run ["_law_script", "_law_at"] (spRunD K) := by
  refine T.F_law_run.ok sc_law_run (fun vs H Q E h => ?_) (fun cdv A outer s H vs Q E hr h => ?_)
  · obtain ⟨a, ns, at_, rfl, _⟩ := h
    rfl
  · obtain ⟨a, ns, at_, rfl, hS, hl, hat, k⟩ := h
    refine ⟨_, pss_cons (ps_set (i := 2) sc_law_run.nd rfl (.inl rfl) (pe_call (ok_cell T) (hr.mono (by decide)) (by rfl) T.g_law_cell T.F_law_cell.kp (b_law_cell T) .nil pass0 (pa_cons (pv 0) (pa_cons (pv 1) pa_nil))))
 (pss_cons (ps_set (i := 3) sc_law_run.nd rfl (.inl rfl) (pe_call (ok_marks T) (hr.mono (by decide)) (by rfl) T.g_law_marks T.F_law_marks.kp (b_law_marks T) .nil pass0 (pa_cons (pv 2) (pa_cons (pe_op op_add pe_int (pe_op op_mod (pe_callTy call_int1 (by rfl) T.n_int (by decide +kernel) (pa_cons (pv 2) pa_nil)) pe_int)) pa_nil))))
 (pss_cons (ps_set (i := 4) sc_law_run.nd rfl (.inl rfl) (pe_slice sl_list (pe_call (ok_namesD T) (hr.mono (by decide)) (by rfl) T.g_law_names T.F_law_names.kp (b_law_names T) .nil pass0 (pa_cons (pv 2) pa_nil)) po_none (po_some (pe_op op_add pe_int (pe_op op_mod (pe_callTy call_int1 (by rfl) T.n_int (by decide +kernel) (pa_cons (pe_op op_fdiv (pv 2) pe_int) pa_nil)) pe_int)))))
 (pss_cons (ps_set (i := 5) sc_law_run.nd rfl (.inl rfl) (pe_op op_mul (pe_op op_mul pe_int (pe_callB call_len_seq (by rfl) T.n_len PySem.boot_len (pa_cons (pv 3) pa_nil))) (pe_callB call_len_seq (by rfl) T.n_len PySem.boot_len (pa_cons (pv 4) pa_nil))))
 (C8.pss_cut (ps_set (i := 6) sc_law_run.nd rfl (.inl rfl) (pe_call (ok_row T) (hr.mono (by decide)) (by rfl) T.g_law_row T.F_law_row.kp (b_law_row T) .nil pass0 (pa_cons (pe_call (ok_cell T) (hr.mono (by decide)) (by rfl) T.g_law_cell T.F_law_cell.kp (b_law_cell T) .nil pass0 (pa_cons (pv 0) (pa_cons (pe_op op_add (pv 1) pe_int) pa_nil))) (pa_cons (pe_op op_mod (pe_callTy call_int1 (by rfl) T.n_int (by decide +kernel) (pa_cons (pe_op op_add (pe_call (ok_cell T) (hr.mono (by decide)) (by rfl) T.g_law_cell T.F_law_cell.kp (b_law_cell T) .nil pass0 (pa_cons (pv 0) (pa_cons (pe_op op_add (pv 1) pe_int) pa_nil))) pe_int) pa_nil)) pe_int) (pa_cons (pv 5) pa_nil)))))
 (C8.pss_cut (ps_for PassesOwn.never rfl (pi_range2 rfl T.n_range (pa_cons (pe_op op_add (pv 1) pe_int) (pa_cons (pe_callB call_len_seq (by rfl) T.n_len PySem.boot_len (pa_cons (pv 0) pa_nil)) pa_nil))) (pg_name (i := 7) sc_law_run.nd rfl (.inl rfl))
 (pss_one (ps_expr (pe_bm PySem.F.plainAttrs_list PySem.F.slot_list_append PySem.F.type_list_append mt_append (pv 6) (pa_cons (pe_call (ok_one T) (hr.mono (by decide)) (by rfl) T.g_law_one T.F_law_one.kp (b_law_one T) .nil pass0 (pa_cons (pe_ix ix_list (pv 0) (pv 7) (fun _ _ => rfl)) (pa_cons (pv 7) (pa_cons (pv 5) pa_nil)))) pa_nil)))))
 (pss_one (ps_ret (pe_call (ok_lsteps T) (hr.mono (by decide)) (by rfl) T.g_law_steps T.F_law_steps.kp (b_law_steps T) .nil pass0 (pa_cons (pv 6) (pa_cons (pv 3) (pa_cons (pv 4) pa_nil))))))))))), ?_⟩
    have p2 : (0 : Int) < 2 := by decide
    have p5 : (0 : Int) < 5 := by decide
    have p25 : (0 : Int) < 25 := by decide
    refine ⟨_, rfl, _, rfl, a, ns, at_, rfl, hS, hl, ?_⟩
    generalize ns.getD at_ 0 = c at k ⊢
    have m0 := Int.emod_nonneg c (Int.ne_of_gt p5)
    have m1 := Int.emod_lt_of_pos c p5
    obtain ⟨j, hj⟩ := Int.eq_ofNat_of_zero_le m0
    refine ⟨_, rfl, _, rfl, .inl ⟨_, rfl, _, _, rfl, rfl, p5, _, _, rfl, rfl, c, 2 + j, by rw [hj]; rfl, by omega, fun H1 M ms s1 nM hM hml hms => ?_⟩⟩
    refine ⟨_, rfl, c, rfl, fun H2 P s2 nP hP ha hb hab => ?_⟩
    generalize nmA c = na at k hP ha hab
    generalize nmB c = nb at k hP hb hab
    have q0 := Int.emod_nonneg (c / 5) (Int.ne_of_gt p2)
    have q1 := Int.emod_lt_of_pos (c / 5) p2
    obtain ⟨l, hl2⟩ := Int.eq_ofNat_of_zero_le q0
    refine ⟨_, rfl, _, _, rfl, rfl, ⟨by decide, by decide⟩, .inl ⟨_, rfl, _, _, rfl, rfl, p2, _, _, rfl, rfl, _, rfl, P, _, rfl, SqL.of hP, fun L nL => ?_⟩⟩
    obtain ⟨nl, enl, hnl0, hnl2, hnl, hnd⟩ : ∃ nl : List Str, cutV [V.str na, V.str nb] none (some (1 + c / 5 % 2)) = nl.map V.str ∧ 0 < nl.length ∧ nl.length ≤ 2 ∧ (∀ n ∈ nl, NmOk n) ∧ ∀ n ∈ nl, n = na ∨ n = nb := by
      rw [hl2, show (1 : Int) + (l : Int) = ((1 + l : Nat) : Int) by omega]
      match l, (show l < 2 by omega) with
      | 0, _ => exact ⟨[na], rfl, Nat.one_pos, Nat.le_succ 1, fun n hn => (by rw [List.mem_singleton.mp hn]; exact ha), fun n hn => .inl (List.mem_singleton.mp hn)⟩
      | 1, _ => exact ⟨[na, nb], rfl, Nat.zero_lt_succ 1, Nat.le_refl 2, fun n hn => (by rcases List.mem_cons.mp hn with e | e; (· rw [e]; exact ha); (· rw [List.mem_singleton.mp e]; exact hb)), fun n hn => (List.mem_cons.mp hn).imp id List.mem_singleton.mp⟩
    rw [enl]
    have s12 := s1.trans s2
    have s3 := same_new (o := .lst (nl.map V.str)) s12 nL
    have hL : (upd H2 L (.lst (nl.map V.str))) L = some (.lst (nl.map V.str)) := upd_same
    have hM3 := kp (o' := .lst (nl.map V.str)) nL (s2 _ _ hM)
    generalize upd H2 L (.lst (nl.map V.str)) = H3 at s3 hL hM3
    refine ⟨_, rfl, M, _, rfl, .inl (SqL.of hM3), _, _, rfl, rfl, .inl ⟨by decide, by decide⟩, ?_⟩
    have lm : (((ms.map VN).length : Nat) : Int) = 2 + j := by rw [List.length_map, hml]; omega
    have ln : (((nl.map V.str).length : Nat) : Int) ≤ 2 ∧ 1 ≤ (((nl.map V.str).length : Nat) : Int) := by rw [List.length_map]; omega
    refine ⟨_, rfl, L, _, rfl, .inl (SqL.of hL), _, _, rfl, rfl, .inr ⟨by omega, by omega⟩, ?_⟩
    have bpos : 0 < 16 * (((ms.map VN).length : Nat) : Int) * (((nl.map V.str).length : Nat) : Int) := Int.mul_pos (by omega) (by omega)
    have blt : 16 * (((ms.map VN).length : Nat) : Int) * (((nl.map V.str).length : Nat) : Int) < 1000 := by
      have h1 : 16 * (((ms.map VN).length : Nat) : Int) ≤ 96 := by omega
      have h2 : 16 * (((ms.map VN).length : Nat) : Int) * (((nl.map V.str).length : Nat) : Int) ≤ 96 * 2 := Int.mul_le_mul h1 ln.1 (by omega) (by decide)
      omega
    generalize hbb : 16 * (((ms.map VN).length : Nat) : Int) * (((nl.map V.str).length : Nat) : Int) = bb at bpos blt
    have r0 := Int.emod_nonneg (ns.getD (at_ + 1) 0 + 9) (Int.ne_of_gt p25)
    have r1 := Int.emod_lt_of_pos (ns.getD (at_ + 1) 0 + 9) p25
    obtain ⟨n, hn⟩ := Int.eq_ofNat_of_zero_le r0
    refine ⟨fun τ H' => ∃ (D : Addr) (dl : List Int), τ = [some (.ref a), some (.int (at_ : Int)), some (.int c), some (.ref M), some (.ref L), some (.int bb), some (.ref D), none] ∧ Same H3 H' ∧ H3 D = none ∧ H' D = some (.lst (dl.map V.int)) ∧ dl.length ≤ 24, ?_, ?_⟩
    · refine ⟨_, rfl, _, rfl, _, _, rfl, rfl, a, ns, at_ + 2, rfl, s3.seq hS, hl, ?_⟩
      refine ⟨_, rfl, _, rfl, _, _, rfl, rfl, a, ns, at_ + 1, rfl, s3.seq hS, hl, _, _, rfl, rfl, .inl ⟨_, rfl, _, _, rfl, rfl, p25, _, rfl, ns.getD (at_ + 2) 0, n, bb, ?_, bpos, blt, by omega, fun H4 D dl s4 nD hD hdl hdb => ⟨D, dl, ?_, s4, nD, hD, by omega⟩⟩⟩
      · rw [← hbb, ← hn]; rfl
      · rw [← hbb]; rfl
    rintro τ H4 ⟨D, dl, rfl, s34, nD, hD, hdl⟩
    have s4 := s3.trans s34
    have fD : H D = none := s3.free nD
    have hM4 := s34 _ _ hM3
    have hL4 := s34 _ _ hL
    have MD : M ≠ D := ne_of_none hM3 nD
    have LD : L ≠ D := ne_of_none hL nD
    refine ⟨fun τ H' => ∃ (v7 : Option V) (es : List Int), τ = [some (.ref a), some (.int (at_ : Int)), some (.int c), some (.ref M), some (.ref L), some (.int bb), some (.ref D), v7] ∧ H' D = some (.lst (es.map V.int)) ∧ es.length ≤ 24 + 63 ∧ (∀ b o, b ≠ D → H4 b = some o → H' b = some o), ?_, ?_⟩
    · refine ⟨_, rfl, _, _, rfl, rfl, _, rfl, a, _, rfl, .inl (s4.seq hS), _, _, rfl, (by rw [List.length_map]; exact ⟨by omega, by omega, by omega, by omega⟩), for_range (lo := (at_ : Int) + 3) (n := (((ns.map V.int).length : Int) - ((at_ : Int) + 3)).toNat) (fun i τ H' => ∃ (v7 : Option V) (es : List Int), τ = [some (.ref a), some (.int (at_ : Int)), some (.int c), some (.ref M), some (.ref L), some (.int bb), some (.ref D), v7] ∧ H' D = some (.lst (es.map V.int)) ∧ es.length ≤ 24 + i ∧ (∀ b o, b ≠ D → H4 b = some o → H' b = some o))
        ⟨none, dl, rfl, hD, hdl, fun _ _ _ z => z⟩ ?_ ?_⟩
      · rintro i τ H5 hi ⟨v7, es, rfl, hD5, hel, k5⟩
        rw [List.length_map] at hi
        have hi4 : at_ + 3 + i < ns.length := by omega
        have hS5 : SqL K H5 a (ns.map V.int) := sq_butD hS fD fun b o hb z => k5 b o hb (s4 _ _ z)
        refine ⟨_, rfl, .inl ⟨rfl, _, SqL.of hD5⟩, ?_⟩
        refine ⟨_, rfl, _, rfl, a, _, _, _, rfl, rfl, hS5, (show atI (ns.map V.int) ((at_ : Int) + 3 + (i : Int)) = some (.int ns[at_ + 3 + i]) by rw [show (at_ : Int) + 3 + (i : Int) = ((at_ + 3 + i : Nat) : Int) by omega]; exact atI_nat (by rw [List.getElem?_map, List.getElem?_eq_getElem hi4]; rfl)), _, rfl, _, rfl, _, _, _, rfl, bpos, blt, fun H6 d s56 d0 d1 => ?_⟩
        have hD6 := s56 _ _ hD5
        refine ⟨_, _, _, rfl, rfl, hD6, small1000 (by rw [List.length_map]; omega), ⟨_, es ++ [d], rfl, ?_, by rw [List.length_append]; show es.length + 1 ≤ _; omega, fun b o hb z => ?_⟩⟩
        · rw [upd_same, List.map_append]; rfl
        · rw [upd_ne hb]; exact s56 _ _ (k5 b o hb z)
      · rintro τ H5 ⟨v7, es, rfl, hD5, hel, k5⟩
        rw [List.length_map] at hel
        exact ⟨v7, es, rfl, hD5, by omega, k5⟩
    rintro τ H5 ⟨v7, es, rfl, hD5, hel, k5⟩
    refine ⟨_, rfl, _, rfl, _, rfl, D, M, L, es, ms, nl, rfl, hD5, k5 _ _ MD hM4, k5 _ _ LD hL4, by omega, by omega, by omega, hnl0, hnl2, hms, hnl, fun H6 p ws xs s6 np hR hxl => ?_⟩
    have s05 : Same H H5 := fun x o z => k5 x o (ne_of_none z fD) (s4 x o z)
    exact k H6 p ws xs ms nl (s05.trans s6) (s05.free np) hR (by omega) (by omega) hnl2 hnd
theorem ok_run : FnOk PP w K mg base CX0 3 T.f_law_run T.d_law_run ["_law_script", "_law_at"] (spRun K) :=
  (ok_runD T).imp fun vs H Q E ⟨a, ns, at_, e, hS, hl, hat, k⟩ => ⟨a, ns, at_, e, hS, hl, hat, fun H' p ws xs ms nl h1 h2 h3 h4 h5 h6 _ => k H' p ws xs ms nl h1 h2 h3 h4 h5 h6⟩
end
end K16

namespace K16
open PySem L2 SI CM BK OWN MIR StX TX TL
section
variable {w : World} {K : PySem.W.Frag} {mg : Str → Option Value} {base : Heap} (T : Txt w K mg)
def spInts : Sp := fun vs H Q _ => ∃ (a d : Addr) (L : List Int), vs = [.ref a, .ref d] ∧ H a = some (.tup (L.map V.int)) ∧ H d = some (.tup (L.map V.int)) ∧ L.length ≤ 900 ∧ Q (.bl true) H
theorem ok_ints : FnOk PP w K mg base CX0 1 T.f_law_ints T.d_law_ints ["_law_actual", "_law_due"] spInts := by
  refine T.F_law_ints.ok sc_law_ints (fun vs H Q E h => ?_) (fun cdv A outer s H vs Q E hr h => ?_)
  · obtain ⟨a, d, L, rfl, _⟩ := h
    rfl
  · obtain ⟨a, d, L, rfl, ha, hd, hl, k⟩ := h
    refine ⟨_, pss_cons (ps_if (PW.pt (pw_or (pt_not (pt_val (pe_callB call_isi (by rfl) T.n_isinstance (by decide +kernel) (pa_cons (pv 0) (pa_cons (pe_bltn (v := .ty "tuple") (by rfl) T.n_tuple (by decide +kernel) rfl) pa_nil))))) (pw_or1 (pt_cmpR op_ne (pe_callB call_len_seq (by rfl) T.n_len PySem.boot_len (pa_cons (pv 0) pa_nil)) (pe_callB call_len_seq (by rfl) T.n_len PySem.boot_len (pa_cons (pv 1) pa_nil)) (nomark _)))))
 (pss_one (ps_ret pe_bl))
 pss_nil)
 (pss_cons (ps_for PassesOwn.never rfl (pi_range1 rfl T.n_range (pa_cons (pe_callB call_len_seq (by rfl) T.n_len PySem.boot_len (pa_cons (pv 1) pa_nil)) pa_nil)) (pg_name (i := 2) sc_law_ints.nd rfl (.inl rfl))
 (pss_one (ps_if (PW.pt (pw_or (pt_val (pe_callB call_isi (by rfl) T.n_isinstance (by decide +kernel) (pa_cons (pe_ix ix_tup (pv 0) (pv 2) (fun _ _ => rfl)) (pa_cons (pe_bltn (v := .ty "bool") (by rfl) T.n_bool (by decide +kernel) rfl) pa_nil)))) (pw_or (pt_not (pt_val (pe_callB call_isi (by rfl) T.n_isinstance (by decide +kernel) (pa_cons (pe_ix ix_tup (pv 0) (pv 2) (fun _ _ => rfl)) (pa_cons (pe_bltn (v := .ty "int") (by rfl) T.n_int (by decide +kernel) rfl) pa_nil))))) (pw_or1 (pt_cmpR op_ne (pe_ix ix_tup (pv 0) (pv 2) (fun _ _ => rfl)) (pe_ix ix_tup (pv 1) (pv 2) (fun _ _ => rfl)) (nomark _))))))
 (pss_one (ps_ret pe_bl))
 pss_nil)))
 (pss_one (ps_ret pe_bl))), ?_⟩
    have ll : (L.map V.int).length ≤ 900 := by rw [List.length_map]; exact hl
    refine ⟨_, rfl, _, _, _, _, true, rfl, ClsV.ty _, .base (.tup ha), kit_ty (by decide +kernel), _, rfl, ?_⟩
    refine iteF ⟨_, rfl, a, _, rfl, .inr (SqT.of ha), _, rfl, d, _, rfl, .inr (SqT.of hd), rfl, _, rfl, ?_⟩
    rw [decide_eq_true rfl]
    refine iteF ?_
    refine ⟨_, rfl, d, _, rfl, .inr (SqT.of hd), _, rfl, by omega, by omega, for_range (lo := 0) (n := (L.map V.int).length) (fun i τ H' => ∃ v2, τ = [some (.ref a), some (.ref d), v2] ∧ H' = H) ⟨none, rfl, rfl⟩ ?_ ?_⟩
    · rintro i τ H' hi ⟨v2, rfl, rfl⟩
      have hi' : i < L.length := by rw [List.length_map] at hi; exact hi
      have ea : atI (L.map V.int) (0 + (i : Int)) = some (.int L[i]) := by
        rw [Int.zero_add]
        exact atI_nat (by rw [List.getElem?_map, List.getElem?_eq_getElem hi']; rfl)
      refine ⟨_, rfl, _, rfl, a, _, _, .int L[i], rfl, rfl, SqT.of ha, ea, _, _, _, _, false, rfl, ClsV.ty _, .base (.int _), kit_ty (by decide +kernel), _, rfl, ?_⟩
      refine iteF ⟨_, rfl, _, rfl, a, _, _, .int L[i], rfl, rfl, SqT.of ha, ea, _, _, _, _, true, rfl, ClsV.ty _, .base (.int _), kit_ty (by decide +kernel), _, rfl, ?_⟩
      refine iteF ⟨_, rfl, _, rfl, a, _, _, .int L[i], rfl, rfl, SqT.of ha, ea, _, rfl, _, rfl, d, _, _, .int L[i], rfl, rfl, SqT.of hd, ea, rfl, _, rfl, ?_⟩
      rw [decide_eq_true rfl]
      exact iteF ⟨_, rfl, rfl⟩
    · rintro τ H' ⟨v2, rfl, rfl⟩
      exact k
def spAgrees : Sp := fun vs H Q _ => ∃ (q st d : Addr) (x : Stp) (o : Out), vs = [.ref q, .ref st, .ref d] ∧ AskedAt H q x o ∧ StpAt H st x ∧ OutAt H d o ∧ GdO o ∧ Q (.bl true) H
theorem ok_lagrees : FnOk PP w K mg base CX0 3 T.f_law_agrees T.d_law_agrees ["_law_asked_here", "_law_step", "_law_outcome"] spAgrees := by
  refine T.F_law_agrees.ok sc_law_agrees (fun vs H Q E h => ?_) (fun cdv A outer s H vs Q E hr h => ?_)
  · obtain ⟨q, st, d, x, o, rfl, _⟩ := h
    rfl
  · obtain ⟨q, st, d, x, o, rfl, ⟨v, hq, hv1, hv2, hv3⟩, hst, ⟨m, ov, fl, hd, _, hov, _⟩, go, k⟩ := h
    refine ⟨_, pss_cons (ps_set (i := 3) sc_law_agrees.nd rfl (.inl rfl) (pe_ix ix_tup (pv 2) pe_int (fun _ _ => rfl)))
 (C8.pss_cut (ps_if (PW.pt (pw_and (pt_cmpR op_eq (pv 3) pe_str (nomark _)) (pw_and1 (pt_cmpR op_ne (pe_ix ix_tup (pv 1) pe_int (fun _ _ => rfl)) pe_str (nomark _)))))
 (pss_one (ps_set (i := 3) sc_law_agrees.nd rfl (.inl rfl) pe_str))
 pss_nil)
 (pss_cons (ps_if (pt_cmpR op_ne (pe_ix ix_list (pv 0) pe_int (fun _ _ => rfl)) (pv 3) (nomark _))
 (pss_one (ps_ret pe_bl))
 pss_nil)
 (pss_cons (ps_if (pt_cmpR op_eq (pv 3) pe_str (nomark _))
 (pss_one (ps_ret (pe_and (pe_callB call_isi (by rfl) T.n_isinstance (by decide +kernel) (pa_cons (pe_ix ix_list (pv 0) pe_int (fun _ _ => rfl)) (pa_cons (pe_bltn (v := .ty "int") (by rfl) T.n_int (by decide +kernel) rfl) pa_nil))) (pe_and (pe_not (pe_callB call_isi (by rfl) T.n_isinstance (by decide +kernel) (pa_cons (pe_ix ix_list (pv 0) pe_int (fun _ _ => rfl)) (pa_cons (pe_bltn (v := .ty "bool") (by rfl) T.n_bool (by decide +kernel) rfl) pa_nil)))) (pe_one (pe_cmpR op_eq (pe_ix ix_list (pv 0) pe_int (fun _ _ => rfl)) (pe_ix ix_tup (pv 2) pe_int (fun _ _ => rfl)) (nomark _)))))))
 pss_nil)
 (pss_cons (ps_if (pt_cmpR op_eq (pv 3) pe_str (nomark _))
 (pss_one (ps_ret (pe_call (ok_ints T) (hr.mono (by decide)) (by rfl) T.g_law_ints T.F_law_ints.kp (b_law_ints T) .nil pass0 (pa_cons (pe_ix ix_list (pv 0) pe_int (fun _ _ => rfl)) (pa_cons (pe_ix ix_tup (pv 2) pe_int (fun _ _ => rfl)) pa_nil)))))
 pss_nil)
 (pss_one (ps_ret (pe_cmpR op_is_bl (pe_ix ix_list (pv 0) pe_int (fun _ _ => rfl)) pe_bl (nomark _)))))))), ?_⟩
    have i0 : ∀ (u : V) (r : List V), atI (u :: r) 0 = some u := fun u r => atI_nat (by rfl)
    have i1 : ∀ (u u2 : V) (r : List V), atI (u :: u2 :: r) 1 = some u2 := fun u u2 r => atI_nat (by rfl)
    have i2 : ∀ (u u2 u3 : V) (r : List V), atI (u :: u2 :: u3 :: r) 2 = some u3 := fun u u2 u3 r => atI_nat (by rfl)
    obtain ⟨r2, hs1⟩ : ∃ r2, H st = some (.tup (.str (kindX x) :: .int x.who :: r2)) := by
      cases x with
      | req k s n' => exact ⟨_, hst⟩
      | com s => exact ⟨_, hst⟩
      | abo s => exact ⟨_, hst⟩
    refine ⟨_, rfl, d, _, _, .str o.word, rfl, rfl, SqT.of hd, i0 _ _, ?_⟩
    refine ⟨fun τ H' => τ = [some (.ref q), some (.ref st), some (.ref d), some (.str (wordA x o))] ∧ H' = H, ?_, ?_⟩
    · refine ⟨_, rfl, rfl, _, rfl, ?_⟩
      rw [ds]
      by_cases c : o.word = "abort"
      · rw [decide_eq_true c]
        refine iteT ⟨_, rfl, st, _, _, .str (kindX x), rfl, rfl, SqT.of hs1, i0 _ _, rfl, _, rfl, ?_⟩
        rw [ds]
        by_cases c2 : kindX x = "abort"
        · rw [decide_eq_true c2]
          exact iteF ⟨by rw [show wordA x o = o.word from if_neg (fun z => z.2 c2)]; rfl, rfl⟩
        · rw [decide_eq_false c2]
          exact iteT ⟨by rw [show wordA x o = "broken" from if_pos ⟨c, c2⟩]; rfl, rfl⟩
      · rw [decide_eq_false c]
        exact iteF ⟨by rw [show wordA x o = o.word from if_neg (fun z => c z.1)]; rfl, rfl⟩
    rintro τ H' ⟨rfl, eH⟩
    rw [eH]
    clear eH H'
    have wl : ("broken" : Str) ≠ "read" ∧ ("broken" : Str) ≠ "wait" ∧ ("abort" : Str) ≠ "read" ∧ ("abort" : Str) ≠ "wait" ∧ ("read" : Str) ≠ "wait" := by decide +kernel
    obtain ⟨b1, b2, b3, b4, b5⟩ := wl
    have wr : wordA x o = "read" ↔ o.word = "read" := by
      unfold wordA
      by_cases c : o.word = "abort" ∧ kindX x ≠ "abort"
      · rw [if_pos c, c.1]; exact ⟨fun e => absurd e b1, fun e => absurd e b3⟩
      · rw [if_neg c]
    have ww : wordA x o = "wait" ↔ o.word = "wait" := by
      unfold wordA
      by_cases c : o.word = "abort" ∧ kindX x ≠ "abort"
      · rw [if_pos c, c.1]; exact ⟨fun e => absurd e b2, fun e => absurd e b4⟩
      · rw [if_neg c]
    refine ⟨_, rfl, q, _, _, .str (wordA x o), rfl, rfl, SqL.of hq, i0 _ _, _, rfl, rfl, _, rfl, ?_⟩
    rw [decide_eq_true rfl]
    refine iteF ⟨_, rfl, rfl, _, rfl, ?_⟩
    rw [ds]
    by_cases c1 : o.word = "read"
    · rw [decide_eq_true (wr.mpr c1)]
      obtain ⟨i, ei, rfl⟩ := hv2 c1
      rw [ei] at hov
      have hov : ov = .int i := hov
      subst hov
      refine iteT ⟨_, rfl, q, _, _, .int i, rfl, rfl, SqL.of hq, i1 _ _ _, _, _, _, _, true, rfl, ClsV.ty _, .base (.int _), kit_ty (by decide +kernel), _, rfl, ?_⟩
      refine iteT ⟨_, rfl, q, _, _, .int i, rfl, rfl, SqL.of hq, i1 _ _ _, _, _, _, _, false, rfl, ClsV.ty _, .base (.int _), kit_ty (by decide +kernel), _, rfl, _, rfl, ?_⟩
      refine iteT ⟨_, rfl, q, _, _, .int i, rfl, rfl, SqL.of hq, i1 _ _ _, _, rfl, d, _, _, .int i, rfl, rfl, SqT.of hd, i2 _ _ _ _, rfl, ?_⟩
      rw [decide_eq_true rfl]
      exact k
    rw [decide_eq_false (fun e => c1 (wr.mp e))]
    refine iteF ⟨_, rfl, rfl, _, rfl, ?_⟩
    rw [ds]
    by_cases c2 : o.word = "wait"
    · rw [decide_eq_true (ww.mpr c2)]
      obtain ⟨h, l, el, rfl, hh⟩ := hv1 c2
      rw [el] at hov
      obtain ⟨h2, rfl, hh2⟩ := hov
      have gl := go.2 l el
      exact iteT ⟨_, rfl, q, _, _, .ref h, rfl, rfl, SqL.of hq, i1 _ _ _, _, rfl, d, _, _, .ref h2, rfl, rfl, SqT.of hd, i2 _ _ _ _, h, h2, l, rfl, hh, hh2, by omega, k⟩
    rw [decide_eq_false (fun e => c2 (ww.mp e))]
    obtain rfl := hv3 c2 c1
    refine iteF ⟨_, rfl, q, _, _, .bl true, rfl, rfl, SqL.of hq, i1 _ _ _, _, _, rfl, rfl, ?_⟩
    rw [decide_eq_true rfl]
    exact k
end
end K16

namespace K16
open PySem L2 SI CM BK OWN MIR StX TX TL
section
variable {w : World} {K : PySem.W.Frag} {mg : Str → Option Value} {base : Heap} (T : Txt w K mg)
/-! data that can be compared -/
theorem strOk_of {x : Str} (h : ∀ c ∈ TL.tl x, c < 0x110000) : PyData.strOk x = true := by
  unfold PyData.strOk
  rw [Array.all_eq_true]
  intro i hi
  refine decide_eq_true (h _ ?_)
  show x.cps[i] ∈ x.cps.toList
  exact Array.getElem_mem_toList hi
theorem NmOk.ok {z : Str} (h : NmOk z) : PyData.strOk z = true := strOk_of fun c hc => (show ∀ c ∈ TL.tl SIG, c < 0x110000 from by decide +kernel) c (h.2.2 c hc)
theorem dpAll_strs {K : PySem.W.Frag} {H : Hp} : ∀ L : List Str, DpAll K H (L.map V.str) (L.map PyData.str)
  | [] => .nil
  | _ :: L => .cons (.str _) (dpAll_strs L)
theorem ents_shaped {L : List Str} (h : ∀ e ∈ L, e ∈ ENT) : SeqAt.shaped (.tuple (L.map PyData.str)) = true := by
  have h1 : ∀ e ∈ ENT, PyData.strOk e = true := by decide +kernel
  have h2 : ∀ L : List Str, (∀ e ∈ L, e ∈ ENT) → PyData.canLayAll0 (L.map PyData.str) = true ∧ PyData.depthAll (L.map PyData.str) ≤ 1 := by
    intro L
    induction L with
    | nil => intro _; exact ⟨rfl, Nat.zero_le _⟩
    | cons x L ih =>
      intro h
      obtain ⟨a, b⟩ := ih fun e he => h e (List.mem_cons_of_mem _ he)
      have c := h1 x (h x (List.mem_cons_self ..))
      simp only [List.map_cons, PyData.canLayAll0, PyData.canLay0, c, a, PyData.depthAll, PyData.depth]
      exact ⟨rfl, by omega⟩
  obtain ⟨a, b⟩ := h2 L h
  unfold SeqAt.shaped
  rw [Bool.and_eq_true]
  refine ⟨by simpa [PyData.canLay0] using a, decide_eq_true ?_⟩
  simp only [PyData.depth]
  omega
theorem ents_refl {L : List Str} (h : ∀ e ∈ L, e ∈ ENT) : PyData.eqv (.tuple (L.map PyData.str)) (.tuple (L.map PyData.str)) = true := SeqAt.eqv_refl _ (SeqAt.canLay_of_shaped (ents_shaped h))
def stpD : Stp → PyData
  | .req k s n => .tuple [.str k, .int s, .str n]
  | .com s => .tuple [.str "commit", .int s]
  | .abo s => .tuple [.str "abort", .int s]
theorem stpD_dp {K : PySem.W.Frag} {H : Hp} {q : Addr} : ∀ {x : Stp}, StpAt H q x → Dp K H (.ref q) (stpD x)
  | .req _ _ _, h => .tup (SqT.of h) (.cons (.str _) (.cons (.int _) (.cons (.str _) .nil)))
  | .com _, h => .tup (SqT.of h) (.cons (.str _) (.cons (.int _) .nil))
  | .abo _, h => .tup (SqT.of h) (.cons (.str _) (.cons (.int _) .nil))
def StrStp : Stp → Prop
  | .req k _ n => PyData.strOk k = true ∧ PyData.strOk n = true
  | _ => True
theorem run_dp {K : PySem.W.Frag} {H : Hp} : ∀ {ws : List V} {xs : List Stp}, RunAt H ws xs → DpAll K H ws (xs.map stpD)
  | _, _, .nil => .nil
  | _, _, .cons ⟨q, e, h⟩ t => by subst e; exact .cons (stpD_dp h) (run_dp t)
theorem run_shaped {xs : List Stp} (h : ∀ x ∈ xs, StrStp x) : SeqAt.shaped (.list (xs.map stpD)) = true := by
  have h2 : ∀ xs : List Stp, (∀ x ∈ xs, StrStp x) → PyData.canLayAll0 (xs.map stpD) = true ∧ PyData.depthAll (xs.map stpD) ≤ 2 := by
    intro xs
    induction xs with
    | nil => intro _; exact ⟨rfl, Nat.zero_le _⟩
    | cons x xs ih =>
      intro h
      obtain ⟨a, b⟩ := ih fun e he => h e (List.mem_cons_of_mem _ he)
      have c := h x (List.mem_cons_self ..)
      have d : PyData.canLay0 (stpD x) = true ∧ PyData.depth (stpD x) ≤ 2 := by
        cases x with
        | req k s n => obtain ⟨c1, c2⟩ := c; simp [stpD, PyData.canLay0, PyData.canLayAll0, PyData.depth, PyData.depthAll, c1, c2]
        | com s => exact ⟨by simp [stpD, PyData.canLay0, PyData.canLayAll0]; decide +kernel, by simp [stpD, PyData.depth, PyData.depthAll]⟩
        | abo s => exact ⟨by simp [stpD, PyData.canLay0, PyData.canLayAll0]; decide +kernel, by simp [stpD, PyData.depth, PyData.depthAll]⟩
      simp only [List.map_cons, PyData.canLayAll0, d.1, a, PyData.depthAll]
      exact ⟨rfl, by omega⟩
  obtain ⟨a, b⟩ := h2 xs h
  unfold SeqAt.shaped
  rw [Bool.and_eq_true]
  refine ⟨by simpa [PyData.canLay0] using a, decide_eq_true ?_⟩
  simp only [PyData.depth]
  omega
theorem run_refl {xs : List Stp} (h : ∀ x ∈ xs, StrStp x) : PyData.eqv (.list (xs.map stpD)) (.list (xs.map stpD)) = true := SeqAt.eqv_refl _ (SeqAt.canLay_of_shaped (run_shaped h))
/-- a run as the laws pass it -/
structure LRun (H : Hp) (a : Addr) (ws : List V) (xs : List Stp) : Prop where
  at_ : H a = some (.lst ws)
  run : RunAt H ws xs
  kd : ∀ x ∈ xs, KdOk x
  st : ∀ x ∈ xs, StrStp x
  le : xs.length ≤ 100
  prt : PartsAt H ws (xs.map fun _ => true)
theorem LRun.same {H H' : Hp} {a : Addr} {ws : List V} {xs : List Stp} (h : LRun H a ws xs) (s : Same H H') : LRun H' a ws xs := ⟨s _ _ h.at_, h.run.same s, h.kd, h.st, h.le, h.prt.same s⟩
theorem XIn.kd {ms : List Nat} {nl : List Str} : ∀ {x : Stp}, XIn ms nl x → KdOk x
  | .req _ _ _, h => h.1
  | .com _, _ => trivial
  | .abo _, _ => trivial
theorem XIn.st {ms : List Nat} {nl : List Str} (hn : ∀ n ∈ nl, NmOk n) : ∀ {x : Stp}, XIn ms nl x → StrStp x
  | .req _ _ n, h => ⟨(show ∀ k ∈ KINDS, PyData.strOk k = true from by decide +kernel) _ h.1, (hn n h.2.2).ok⟩
  | .com _, _ => trivial
  | .abo _, _ => trivial
theorem mark_ok {ms : List Nat} (h : MarksOk ms) {m : Nat} (hm : m ∈ ms) : stampV (.int (m : Int)) 1 = true := by
  obtain ⟨a, b⟩ := h.2 m hm
  have e : ((6 * 10 ^ 28 : Nat) : Int) ≤ top30 := by decide
  show (decide ((1 : Int) ≤ (m : Int)) && decide ((m : Int) ≤ top30)) = true
  rw [decide_eq_true (by omega), decide_eq_true (by omega)]
  rfl
theorem name_short {n : Str} (h : NmOk n) : n.length ≤ 900 := by have := h.2.1; omega
theorem XIn.part {ms : List Nat} {nl : List Str} (hm : MarksOk ms) (hn : ∀ n ∈ nl, NmOk n) {H : Hp} {q : Addr} : ∀ {x : Stp}, XIn ms nl x → StpAt H q x → PartAt H (.ref q) true
  | .req k s n, h, z => by
    obtain ⟨hk, ⟨m, hm1, rfl⟩, hn1⟩ := h
    have lk : k.length ≤ 900 := (show ∀ k ∈ KINDS, k.length ≤ 900 from by decide +kernel) k hk
    refine .inr ⟨q, _, rfl, z, fun x hx => ?_, by show 3 ≤ 100; decide, ?_⟩
    · simp only [List.mem_cons, List.not_mem_nil, or_false] at hx
      rcases hx with e | e | e
      · subst e; exact ⟨rfl, fun z hz => by cases hz; exact lk⟩
      · subst e; exact ⟨rfl, fun z hz => by cases hz⟩
      · subst e; exact ⟨rfl, fun z hz => by cases hz; exact name_short (hn n hn1)⟩
    · have e1 : inV (V.str k) [V.str "read", V.str "write"] = true := (show ∀ k ∈ KINDS, inV (V.str k) [V.str "read", V.str "write"] = true from by decide +kernel) k hk
      show true = (inV (V.str k) [V.str "read", V.str "write"] && (stampV (.int (m : Int)) 1 && nameV (.str n)))
      rw [e1, mark_ok hm hm1, (hn n hn1).name]; rfl
  | .com s, h, z => by
    obtain ⟨m, hm1, rfl⟩ := h
    refine .inr ⟨q, _, rfl, z, fun x hx => ?_, by show 2 ≤ 100; decide, ?_⟩
    · simp only [List.mem_cons, List.not_mem_nil, or_false] at hx
      rcases hx with e | e
      · subst e; exact ⟨rfl, fun z hz => by cases hz; decide +kernel⟩
      · subst e; exact ⟨rfl, fun z hz => by cases hz⟩
    · have e1 : inV (V.str "commit") [V.str "commit", V.str "abort"] = true := by decide +kernel
      show true = (inV (V.str "commit") [V.str "commit", V.str "abort"] && stampV (.int (m : Int)) 1)
      rw [e1, mark_ok hm hm1]; rfl
  | .abo s, h, z => by
    obtain ⟨m, hm1, rfl⟩ := h
    refine .inr ⟨q, _, rfl, z, fun x hx => ?_, by show 2 ≤ 100; decide, ?_⟩
    · simp only [List.mem_cons, List.not_mem_nil, or_false] at hx
      rcases hx with e | e
      · subst e; exact ⟨rfl, fun z hz => by cases hz; decide +kernel⟩
      · subst e; exact ⟨rfl, fun z hz => by cases hz⟩
    · have e1 : inV (V.str "abort") [V.str "commit", V.str "abort"] = true := by decide +kernel
      show true = (inV (V.str "abort") [V.str "commit", V.str "abort"] && stampV (.int (m : Int)) 1)
      rw [e1, mark_ok hm hm1]; rfl
theorem RunIs.parts {ms : List Nat} {nl : List Str} (hm : MarksOk ms) (hn : ∀ n ∈ nl, NmOk n) {H : Hp} : ∀ {ws : List V} {xs : List Stp}, RunAt H ws xs → (∀ x ∈ xs, XIn ms nl x) → PartsAt H ws (xs.map fun _ => true)
  | _, _, .nil, _ => .nil
  | _, _, .cons ⟨q, e, h⟩ t, hx => by subst e; exact .cons ((hx _ (List.mem_cons_self ..)).part hm hn h) (RunIs.parts hm hn t fun x h => hx x (List.mem_cons_of_mem _ h))
theorem RunIs.l {H : Hp} {p : Addr} {ws : List V} {xs : List Stp} {ms : List Nat} {nl : List Str} (h : RunIs H p ws xs ms nl) (le : xs.length ≤ 100) : LRun H p ws xs :=
  ⟨h.at_, h.run, fun x hx => (h.ins x hx).kd, fun x hx => (h.ins x hx).st h.nms, le, RunIs.parts h.mks h.nms h.run h.ins⟩
theorem LRun.drop {H : Hp} {p q : Addr} {ws : List V} {xs : List Stp} (h : LRun H p ws xs) (n : Nat) (hq : H q = some (.lst (ws.drop n))) : LRun H q (ws.drop n) (xs.drop n) :=
  ⟨hq, h.run.drop n, fun x hx => h.kd x (List.mem_of_mem_drop hx), fun x hx => h.st x (List.mem_of_mem_drop hx), by rw [List.length_drop]; have := h.le; omega, by rw [List.map_drop]; exact h.prt.drop n⟩
theorem sIx_pos (n j : Nat) (h : j ≤ n) : HT.sIx n 0 (some (j : Int)) = j := by
  have e := HT.clip_eq (j : Int) n 0
  rw [if_neg (by omega)] at e
  omega
theorem cut_drop (ws : List V) (j : Nat) (h : j ≤ ws.length) : cutV ws (some (j : Int)) none = ws.drop j := by
  unfold cutV
  rw [sIx_pos _ _ h, HT.sIx_none]
  exact List.take_of_length_le (by rw [List.length_drop]; exact Nat.le_refl _)
end
end K16

namespace K16
open PySem L2 SI CM BK OWN MIR StX TX TL
section
variable {w : World} {K : PySem.W.Frag} {mg : Str → Option Value} {base : Heap} (T : Txt w K mg)
theorem kbBegK : ∃ (g : List Value → List Value → List Value), KBn K T.d_Desk_begin ["self", "stamp"] 1 ["stamp"] g (fun vs zs => vs ++ zs) := by
  obtain ⟨mv, h⟩ := T.F_Desk_begin.kbinds0 (ps := ["self", "stamp"]) 1 ["stamp"] [] (fun us mv ws => us ++ ws) (by simp) (fun q h => by cases h) (fun r1 _ r3 => r1.append r3)
    fun D doc pm an cdv ct us mv ws l1 l2 l3 => match us, mv, ws, l1, l2, l3 with
      | [_], [], [_], _, _, _ => rfl
  exact ⟨_, h⟩
section
variable {CD CB CS CI : Addr} {U U' : List Int} {N : List Str} {B : Bkm} {ex : List Addr} {H H' : Hp} {a c l : Addr} {y : DkA} {σ : MIR.S} {G : List Int} {g : Int} {L : List V}
theorem WfI.monoU {i : MIR.It} (h : WfI U i) (s : ∀ x ∈ U, x ∈ U') : WfI U' i := ⟨h.ne, h.le, fun a v e => s a (h.ho a v e)⟩
theorem StAt.monoU {p : Addr} (h : StAt CS CI U N H p σ) (s : ∀ x ∈ U, x ∈ U') : StAt CS CI U' N H p σ := by
  obtain ⟨dx, ds, dv, db, h1, n1, n2, n3, D1, D2, D3⟩ := h.ex
  refine ⟨dx, ds, dv, db, h1, n1, n2, n3, D1.mono (Same.refl H) ?_, D2.mono (Same.refl H) ?_, D3.mono (Same.refl H) ?_⟩
  · rintro (t | n) (_ | v) z
    · exact z
    · exact z
    · exact z
    · obtain ⟨q, z1, z2, z3, z4⟩ := z
      exact ⟨q, z1, z2, z3, WfI.monoU z4 s⟩
  · rintro (t | n) (_ | v) z
    · exact z
    · obtain ⟨b, z1, z2, z3⟩ := z
      exact ⟨b, z1, s _ z2, z3⟩
    · exact z
    · exact z
  · rintro (t | n) (_ | v) z
    · exact z
    · obtain ⟨q, z1, z2, z3, z4, z5⟩ := z
      exact ⟨q, z1, s _ z2, z3, z4, fun x hx => s _ (z5 x hx)⟩
    · exact z
    · exact z
theorem DkAt.monoU (h : DkAt CD CB CS CI U N B ex H a y σ G g L) (s : ∀ x ∈ U, x ∈ U') : DkAt CD CB CS CI U' N B ex H a y σ G g L := by
  obtain ⟨st, h1, h2⟩ := h.st
  exact ⟨⟨st, h1, StAt.monoU h2 s⟩, h.bk, h.bg, h.lf, h.inx⟩
/-- another desk's dict is locked or let go -/
theorem DkAt.chg (h : DkAt CD CB CS CI U N B ex H a y σ G g L) (s : ∀ b o, b ≠ c → H b = some o → H' b = some o) (hc : c ∈ ex) (cb : y.bg ≠ c) (ca : a ≠ c) (cl : y.lf ≠ c) : DkAt CD CB CS CI U N B ex H' a y σ G g L := by
  obtain ⟨st, h1, h2⟩ := h.st
  obtain ⟨kv, b1, b3, b4⟩ := h.bg.ex
  have s2 := dels_same (ex := ex) fun b o n z => s b o (fun e => n (by rw [e]; exact hc)) z
  exact ⟨⟨st, s _ _ ca h1, h2.same s2⟩, h.bk.same s2, ⟨kv, s _ _ cb b1, b3, b4⟩, s _ _ cl h.lf, h.inx⟩
/-- one more dict that it knows nothing of -/
theorem DkAt.more (h : DkAt CD CB CS CI U N B ex H a y σ G g L) (s : Same H H') (n : H c = none) : DkAt CD CB CS CI U N B (c :: ex) H' a y σ G g L := by
  obtain ⟨st, h1, h2⟩ := h.st
  obtain ⟨kv, b1, b3, b4⟩ := h.bg.ex
  have s2 : Same (dels ex H) (dels (c :: ex) H') := fun b o z => by
    obtain ⟨m, z⟩ := dels_in z
    exact dels_of (fun q => (List.mem_cons.mp q).elim (fun e => ne_of_none z n e) m) (s b o z)
  exact ⟨⟨st, s _ _ h1, h2.same s2⟩, h.bk.same s2, ⟨kv, s _ _ b1, b3, b4⟩, s _ _ h.lf, List.mem_cons_of_mem _ h.inx⟩
/-- a list of somebody else has changed -/
theorem DkAt.lst (h : DkAt CD CB CS CI U N B ex H a y σ G g L) (s : ∀ b o, b ≠ l → H b = some o → H' b = some o) (hl : ∃ L, H l = some (.lst L)) (nl : y.lf ≠ l) : DkAt CD CB CS CI U N B ex H' a y σ G g L := by
  obtain ⟨st, h1, h2⟩ := h.st
  obtain ⟨kv, b1, b3, b4⟩ := h.bg.ex
  obtain ⟨L2, hl⟩ := hl
  have sx : SameX (dels ex H) (dels ex H') := fun b o ok z => by
    obtain ⟨m, z⟩ := dels_in z
    exact dels_of m (s b o (fun e => by rw [e, hl] at z; cases z; exact ok) z)
  exact ⟨⟨st, s _ _ (fun e => by rw [e, hl] at h1; cases h1) h1, StAt_X h2 sx⟩, Bk_X h.bk sx, ⟨kv, s _ _ (fun e => by rw [e, hl] at b1; cases b1) b1, b3, b4⟩, s _ _ nl h.lf, h.inx⟩
end
theorem asc_ex : ∀ L : List Int, ∃ M, IsAsc L M
  | [] => ⟨[], .nil, fun x => Iff.rfl⟩
  | a :: L => by
    obtain ⟨M, h1, h2⟩ := asc_ex L
    refine ⟨M.filter (fun x => decide (x < a)) ++ a :: M.filter (fun x => decide (a < x)), ?_, fun x => ?_⟩
    · refine List.pairwise_append.mpr ⟨h1.sublist List.filter_sublist, List.pairwise_cons.mpr ⟨fun y hy => of_decide_eq_true (List.mem_filter.mp hy).2, h1.sublist List.filter_sublist⟩, fun y hy z hz => ?_⟩
      have y1 : y < a := of_decide_eq_true (List.mem_filter.mp hy).2
      rcases List.mem_cons.mp hz with e | e
      · rw [e]; exact y1
      · have : a < z := of_decide_eq_true (List.mem_filter.mp e).2
        omega
    · rw [List.mem_append, List.mem_cons, List.mem_cons, List.mem_filter, List.mem_filter, h2 x]
      constructor
      · rintro (⟨h, _⟩ | e | ⟨h, _⟩)
        · exact .inr h
        · exact .inl e
        · exact .inr h
      · rintro (e | h)
        · exact .inr (.inl e)
        · rcases Int.lt_trichotomy x a with c | c | c
          · exact .inl ⟨h, decide_eq_true c⟩
          · exact .inr (.inl c)
          · exact .inr (.inr ⟨h, decide_eq_true c⟩)
theorem asc_is (L : List Int) : IsAsc L (asc L) := by
  obtain ⟨M, h⟩ := asc_ex L
  rw [asc_eq h]; exact h
theorem mem_asc {L : List Int} {x : Int} : x ∈ asc L ↔ x ∈ L := (asc_is L).2 x
theorem valL {α : Type} [DecidableEq α] (f : α → Key) (fi : ∀ a b, f a = f b → a = b) (g : α → V) : ∀ {L : List α} {a : α}, a ∈ L → valV (L.map fun x => (f x, g x)) (f a) = some (g a)
  | b :: L, a, h => by
    by_cases e : f b = f a
    · have : valV ((f b, g b) :: L.map fun x => (f x, g x)) (f a) = some (g b) := by unfold valV; rw [List.find?_cons_of_pos (by simpa using e)]; rfl
      show valV ((f b, g b) :: L.map fun x => (f x, g x)) (f a) = _
      rw [this, fi _ _ e]
    · have : valV ((f b, g b) :: L.map fun x => (f x, g x)) (f a) = valV (L.map fun x => (f x, g x)) (f a) := valV_neg e
      show valV ((f b, g b) :: L.map fun x => (f x, g x)) (f a) = _
      rw [this]
      exact valL f fi g ((List.mem_cons.mp h).resolve_left fun q => e (by rw [q]))
theorem valN {α : Type} [DecidableEq α] (f : α → Key) (fi : ∀ a b, f a = f b → a = b) (g : α → V) : ∀ {L : List α} {a : α}, a ∉ L → valV (L.map fun x => (f x, g x)) (f a) = none
  | [], _, _ => rfl
  | b :: L, a, h => by
    have e : ¬ f b = f a := fun q => h (by rw [fi _ _ q]; exact List.mem_cons_self ..)
    have : valV ((f b, g b) :: L.map fun x => (f x, g x)) (f a) = valV (L.map fun x => (f x, g x)) (f a) := valV_neg e
    show valV ((f b, g b) :: L.map fun x => (f x, g x)) (f a) = _
    rw [this]
    exact valN f fi g fun q => h (List.mem_cons_of_mem _ q)
theorem putL {U : List Int} {g : Int → V} {t : Int} {v : V} (h : t ∈ U) : putK (U.map fun t => ((Sum.inl t : Key), g t)) (Sum.inl t) v = U.map fun x => ((Sum.inl x : Key), if x = t then v else g x) := by
  unfold putK
  rw [valV_any, valL Sum.inl (fun _ _ e => Sum.inl.inj e) g h]
  show List.map _ _ = _
  rw [List.map_map]
  refine List.map_congr_left fun x _ => ?_
  show (if (Sum.inl x : Key) = Sum.inl t then ((Sum.inl x : Key), v) else (Sum.inl x, g x)) = (Sum.inl x, if x = t then v else g x)
  by_cases q : x = t
  · rw [if_pos (congrArg Sum.inl q), if_pos q]
  · rw [if_neg fun z => q (Sum.inl.inj z), if_neg q]
theorem putNew {U : List Int} {g : Int → V} {t : Int} {v : V} (h : t ∉ U) : putK (U.map fun t => ((Sum.inl t : Key), g t)) (Sum.inl t) v = (U ++ [t]).map fun x => ((Sum.inl x : Key), if x = t then v else g x) := by
  rw [putK_new _ (valN Sum.inl (fun _ _ e => Sum.inl.inj e) g h), List.map_append]
  congr 1
  · refine List.map_congr_left fun x hx => ?_
    rw [if_neg (fun e => h (by rw [← e]; exact hx))]
  · show _ = [((Sum.inl t : Key), if t = t then v else g t)]
    rw [if_pos rfl]
/-! what became of the transactions -/
theorem bond_ov (σ : MIR.S) (s h : Int) : (bondS σ s h).ov = σ.ov := by
  unfold bondS; split <;> rfl
theorem ifb_ov (c : Bool) (σ : MIR.S) (s h : Int) : (if c = true then bondS σ s h else σ).ov = σ.ov := by
  split
  · exact bond_ov ..
  · rfl
theorem read_ov (σ : MIR.S) (n : Str) (s : Int) : (readS σ n s).ov = σ.ov := by
  unfold readS; split <;> rfl
theorem askR_ov {B : Bkm} {σ : MIR.S} {kd : Str} {s : Int} {n : Str} {v : Int} {m : List Str} {an : Str} (t : Int) : (askR B σ kd s n v m an).1.ov t = if t ∈ (askR B σ kd s n v m an).2.fallen then some false else σ.ov t := by
  unfold askR
  split
  · exact (if_neg List.not_mem_nil).symm
  split
  · rfl
  split
  · rfl
  split
  · show (readS _ n s).ov t = _
    rw [read_ov, ifb_ov]
    exact (if_neg List.not_mem_nil).symm
  split
  · rw [ifb_ov]
    exact (if_neg List.not_mem_nil).symm
  · show (if bindM B.ends (spotOf σ s n) an = true then bondS σ s (hInt (σ.it n)) else σ).ov t = _
    rw [ifb_ov]
    exact (if_neg List.not_mem_nil).symm
theorem req_ov {B : Bkm} {σ : MIR.S} {kd : Str} {s : Int} {n : Str} {v : Int} (t : Int) : (reqM B σ kd s n v).1.ov t = if t ∈ (reqM B σ kd s n v).2.fallen then some false else σ.ov t := by
  by_cases hw : (askM B σ kd s n v).2.word = "wound"
  · by_cases h2 : s ∈ fal σ (hInt (σ.it n))
    · rw [reqM_self hw h2]; rfl
    · rw [reqM_two hw h2]
      show (askM B (fallS σ (fal σ (hInt (σ.it n)))) kd s n v).1.ov t = if t ∈ asc (fal σ (hInt (σ.it n)) ++ (askM B (fallS σ (fal σ (hInt (σ.it n)))) kd s n v).2.fallen) then some false else σ.ov t
      rw [ask_R, askR_ov]
      generalize (askR B (fallS σ (fal σ (hInt (σ.it n)))) kd s n v _ _).2.fallen = L
      show (if t ∈ L then some false else if t ∈ fal σ (hInt (σ.it n)) then some false else σ.ov t) = _
      by_cases c1 : t ∈ L
      · rw [if_pos c1, if_pos (mem_asc.mpr (List.mem_append_right _ c1))]
      · rw [if_neg c1]
        by_cases c2 : t ∈ fal σ (hInt (σ.it n))
        · rw [if_pos c2, if_pos (mem_asc.mpr (List.mem_append_left _ c2))]
        · rw [if_neg c2, if_neg (fun z => (List.mem_append.mp (mem_asc.mp z)).elim c2 c1)]
  · rw [reqM_one hw, ask_R]; exact askR_ov t
theorem req_ncom {U : List Int} {B : Bkm} {σ : MIR.S} (w : WFS U σ) (hf : ∀ x ∈ ENT, B.f x ∈ chs x) {kd : Str} (hk : kd ∈ KINDS) {s : Int} (hs : s ∈ U) {n : Str} {v : Int} : (reqM B σ kd s n v).2.word ≠ "commit" := by
  have z : ("wait" : Str) ≠ "commit" ∧ ("abort" : Str) ≠ "commit" ∧ ("read" : Str) ≠ "commit" ∧ ("skip" : Str) ≠ "commit" ∧ ("put" : Str) ≠ "commit" := by decide +kernel
  rcases req_word w hf hk hs (n := n) (v := v) with h | h | ⟨_, h⟩ | ⟨_, h | h⟩ <;> rw [h]
  · exact z.1
  · exact z.2.1
  · exact z.2.2.1
  · exact z.2.2.2.1
  · exact z.2.2.2.2
/-- what a step changes in what became of the transactions -/
theorem take_ov {U : List Int} {B : Bkm} {σ : MIR.S} (w : WFS U σ) (hf : ∀ x ∈ ENT, B.f x ∈ chs x) {x : Stp} (hk : KdOk x) (hx : x.who ∈ U) (v : Int) (t : Int) :
    (takeM B σ x v).1.ov t = if (takeM B σ x v).2.word = "commit" ∧ t = x.who then some true else if t ∈ (takeM B σ x v).2.fallen then some false else σ.ov t := by
  have z : ("void" : Str) ≠ "commit" ∧ ("wait" : Str) ≠ "commit" ∧ ("abort" : Str) ≠ "commit" := by decide +kernel
  unfold takeM
  by_cases c : (σ.ov x.who).isSome = true
  · rw [if_pos c, if_neg (fun h => z.1 h.1), if_neg List.not_mem_nil]
  · rw [if_neg c]
    cases x with
    | com s =>
      have aux : ∀ r : MIR.S × Out, (r = (σ, ⟨"wait", [], .tup (asc (waitsOf σ s)), []⟩) ∨ r = (commS σ s B.keep, ⟨"commit", [], .non, []⟩)) → r.1.ov t = if r.2.word = "commit" ∧ t = s then some true else if t ∈ r.2.fallen then some false else σ.ov t := by
        rintro r (rfl | rfl)
        · show σ.ov t = if ("wait" : Str) = "commit" ∧ t = s then some true else if t ∈ [] then some false else σ.ov t
          rw [if_neg (c := ("wait" : Str) = "commit" ∧ t = s) (fun h => z.2.1 h.1), if_neg List.not_mem_nil]
        · show (if t = s then some true else σ.ov t) = if ("commit" : Str) = "commit" ∧ t = s then some true else if t ∈ [] then some false else σ.ov t
          by_cases c3 : t = s
          · rw [if_pos c3, if_pos ⟨rfl, c3⟩]
          · rw [if_neg c3, if_neg (fun h => c3 h.2), if_neg List.not_mem_nil]
      refine aux _ ?_
      by_cases c2 : waitsOf σ s ≠ []
      · exact .inl (if_pos c2)
      · exact .inr (if_neg c2)
    | abo s =>
      show (if t ∈ fal σ s then some false else σ.ov t) = if ("abort" : Str) = "commit" ∧ t = s then some true else if t ∈ fal σ s then some false else σ.ov t
      rw [if_neg (c := ("abort" : Str) = "commit" ∧ t = s) (fun h => z.2.2 h.1)]
    | req k s n =>
      show (reqM B σ k s n v).1.ov t = if (reqM B σ k s n v).2.word = "commit" ∧ t = s then some true else if t ∈ (reqM B σ k s n v).2.fallen then some false else σ.ov t
      rw [if_neg (c := (reqM B σ k s n v).2.word = "commit" ∧ t = s) (fun h => req_ncom w hf hk hx h.1)]
      exact req_ov t
/-! a desk, a dict of its transactions by stamps, and a dict of what became of them -/
def TrS (CT CN : Addr) (H : Hp) (p a : Addr) (n : Int) : Prop := ∃ dx sp lf dsx, H p = some (.ins CT dx (trF a sp n lf)) ∧ H sp = some (.ins CN dsx [(("number" : Str), .int n)])
theorem TrS.same {CT CN : Addr} {H H' : Hp} {p a : Addr} {n : Int} (h : TrS CT CN H p a n) (s : Same H H') : TrS CT CN H' p a n := by
  obtain ⟨dx, sp, lf, dsx, h1, h2⟩ := h
  exact ⟨dx, sp, lf, dsx, s _ _ h1, s _ _ h2⟩
theorem TrS.at_ {CT CN : Addr} {H : Hp} {p a : Addr} {n : Int} (h : TrS CT CN H p a n) : TrnAt CT H p a n := by
  obtain ⟨dx, sp, lf, dsx, h1, h2⟩ := h
  exact ⟨dx, sp, lf, h1⟩
abbrev mkI (M : List Int) (g : Int → V) : List (Key × V) := M.map fun n => ((Sum.inl n : Key), g n)
structure KI (CD CB CS CI CT CN : Addr) (U : List Int) (N : List Str) (B : Bkm) (H5 H : Hp) (D PD SD : Addr) (y : DkA) (pg sg : Int → V) (M : List Int) (σ : MIR.S) (G : List Int) (g : Int) : Prop where
  dk : DkAt CD CB CS CI U N B [SD, PD, y.bg] H D y σ G g []
  pd : H PD = some (.dK (mkI M pg))
  sd : H SD = some (.dK (mkI M sg))
  pp : ∀ n ∈ M, ∃ p, pg n = .ref p ∧ TrS CT CN (dels [D, y.bg, PD, SD] H) p D n
  sm : Same H5 (dels [D, y.bg, PD, SD] H)
  ne : PD ≠ SD ∧ y.bg ≠ PD ∧ y.bg ≠ SD
section
variable {CD CB CS CI CT CN : Addr} {U : List Int} {N : List Str} {B : Bkm} {H5 H H' : Hp} {D PD SD : Addr} {y : DkA} {pg sg : Int → V} {M : List Int} {σ σ' : MIR.S} {G G' : List Int} {g g' : Int}
theorem KI.ds (h : KI CD CB CS CI CT CN U N B H5 H D PD SD y pg sg M σ G g) : D ≠ PD ∧ D ≠ SD ∧ D ≠ y.bg ∧ y.lf ≠ PD ∧ y.lf ≠ SD ∧ y.lf ≠ D := by
  obtain ⟨st, h1, _⟩ := h.dk.st
  obtain ⟨kv, hb, _⟩ := h.dk.bg.ex
  have hl := h.dk.lf
  have h2 := h.pd
  have h3 := h.sd
  refine ⟨fun e => ?_, fun e => ?_, fun e => ?_, fun e => ?_, fun e => ?_, fun e => ?_⟩
  · rw [e, h2] at h1; cases h1
  · rw [e, h3] at h1; cases h1
  · rw [e, hb] at h1; cases h1
  · rw [e, h2] at hl; cases hl
  · rw [e, h3] at hl; cases hl
  · rw [e, h1] at hl; cases hl
theorem KI.got (h : KI CD CB CS CI CT CN U N B H5 H D PD SD y pg sg M σ G g) : Same H5 H := h.sm.trans dels_sub
theorem KI.per (h : KI CD CB CS CI CT CN U N B H5 H D PD SD y pg sg M σ G g) {n : Int} (hn : n ∈ M) : ∃ p, pg n = .ref p ∧ TrS CT CN H p D n := by
  obtain ⟨p, e, z⟩ := h.pp n hn
  exact ⟨p, e, z.same dels_sub⟩
theorem KI.same (h : KI CD CB CS CI CT CN U N B H5 H D PD SD y pg sg M σ G g) (s : Same H H') : KI CD CB CS CI CT CN U N B H5 H' D PD SD y pg sg M σ G g :=
  { dk := h.dk.same s, pd := s _ _ h.pd, sd := s _ _ h.sd, pp := fun n hn => by obtain ⟨p, e, z⟩ := h.pp n hn; exact ⟨p, e, z.same (dels_same fun b o _ z => s b o z)⟩, sm := h.sm.trans (dels_same fun b o _ z => s b o z), ne := h.ne }
/-- a transaction is begun -/
theorem KI.beg (h : KI CD CB CS CI CT CN U N B H5 H D PD SD y pg sg M σ G g) (km : ∀ x o, x ≠ D → x ≠ y.bg → H x = some o → H' x = some o) (D1 : DkAt CD CB CS CI U N B [SD, PD, y.bg] H' D y σ G' g' []) : KI CD CB CS CI CT CN U N B H5 H' D PD SD y pg sg M σ G' g' := by
  obtain ⟨n1, n2, n3, n4, n5, n6⟩ := h.ds
  have s := dels_same (ex := [D, y.bg, PD, SD]) (H := H) (H' := H') fun b o m z => km b o (fun e => m (by simp [e])) (fun e => m (by simp [e])) z
  exact { dk := D1, pd := km _ _ (Ne.symm n1) (Ne.symm h.ne.2.1) h.pd, sd := km _ _ (Ne.symm n2) (Ne.symm h.ne.2.2) h.sd, pp := fun n hn => by obtain ⟨p, e, z⟩ := h.pp n hn; exact ⟨p, e, z.same s⟩, sm := h.sm.trans s, ne := h.ne }
/-- and put into both dicts -/
theorem KI.put2 (h : KI CD CB CS CI CT CN U N B H5 H D PD SD y pg sg M σ G g) {n : Int} (hn : n ∉ M) {p : Addr} {v : V} (hp : TrS CT CN (dels [D, y.bg, PD, SD] H) p D n) :
    KI CD CB CS CI CT CN U N B H5 (upd (upd H PD (.dK (putK (mkI M pg) (Sum.inl n) (.ref p)))) SD (.dK (putK (mkI M sg) (Sum.inl n) v))) D PD SD y (fun x => if x = n then .ref p else pg x) (fun x => if x = n then v else sg x) (M ++ [n]) σ G g := by
  obtain ⟨n1, n2, n3, n4, n5, n6⟩ := h.ds
  have k1 : ∀ b o, b ≠ PD → b ≠ SD → H b = some o → (upd (upd H PD (.dK (putK (mkI M pg) (Sum.inl n) (.ref p)))) SD (.dK (putK (mkI M sg) (Sum.inl n) v))) b = some o := fun b o e1 e2 z => by rw [upd_ne e2, upd_ne e1]; exact z
  have s := dels_same (ex := [D, y.bg, PD, SD]) (H := H) fun b o m z => k1 b o (fun e => m (by simp [e])) (fun e => m (by simp [e])) z
  have d1 : DkAt CD CB CS CI U N B [SD, PD, y.bg] (upd H PD (.dK (putK (mkI M pg) (Sum.inl n) (.ref p)))) D y σ G g [] := h.dk.chg (c := PD) (fun b o e z => by rw [upd_ne e]; exact z) (by simp) h.ne.2.1 n1 n4
  refine { dk := d1.chg (c := SD) (fun b o e z => by rw [upd_ne e]; exact z) (by simp) h.ne.2.2 n2 n5, pd := ?_, sd := ?_, pp := fun x hx => ?_, sm := h.sm.trans s, ne := h.ne }
  · rw [upd_ne h.ne.1, upd_same]
    exact congrArg _ (congrArg _ (putNew hn))
  · rw [upd_same]
    exact congrArg _ (congrArg _ (putNew hn))
  · by_cases c : x = n
    · rw [c]
      exact ⟨p, if_pos rfl, hp.same s⟩
    · have hx' : x ∈ M := (List.mem_append.mp hx).resolve_right fun m => c (List.mem_singleton.mp m)
      obtain ⟨q, e, z⟩ := h.pp x hx'
      exact ⟨q, (if_neg c).trans e, z.same s⟩
/-- what became of one is written -/
theorem KI.puts (h : KI CD CB CS CI CT CN U N B H5 H D PD SD y pg sg M σ G g) {n : Int} (hn : n ∈ M) {v : V} : KI CD CB CS CI CT CN U N B H5 (upd H SD (.dK (putK (mkI M sg) (Sum.inl n) v))) D PD SD y pg (fun x => if x = n then v else sg x) M σ G g := by
  obtain ⟨n1, n2, n3, n4, n5, n6⟩ := h.ds
  have s := dels_same (ex := [D, y.bg, PD, SD]) (H := H) (H' := upd H SD (.dK (putK (mkI M sg) (Sum.inl n) v))) fun b o m z => by rw [upd_ne (fun e => m (by simp [e]))]; exact z
  refine { dk := h.dk.chg (c := SD) (fun b o e z => by rw [upd_ne e]; exact z) (by simp) h.ne.2.2 n2 n5, pd := by rw [upd_ne h.ne.1]; exact h.pd, sd := ?_, pp := fun x hx => ?_, sm := h.sm.trans s, ne := h.ne }
  · rw [upd_same]
    exact congrArg _ (congrArg _ (putL hn))
  · obtain ⟨q, e, z⟩ := h.pp x hx
    exact ⟨q, e, z.same s⟩
/-- both dicts locked -/
abbrev lock2 (H : Hp) (PD SD : Addr) (o1 o2 : Obj) (u1 u2 : HO) : Hp := upd (upd H PD (.frz o1 u1)) SD (.frz o2 u2)
theorem lock2_o {o1 o2 : Obj} {u1 u2 : HO} {b : Addr} {o : HO} (n1 : b ≠ PD) (n2 : b ≠ SD) (z : H b = some o) : lock2 H PD SD o1 o2 u1 u2 b = some o := by
  show (upd (upd H PD (.frz o1 u1)) SD (.frz o2 u2)) b = some o
  rw [upd_ne n2, upd_ne n1]; exact z
theorem lock2_p {o1 o2 : Obj} {u1 u2 : HO} (n : PD ≠ SD) : lock2 H PD SD o1 o2 u1 u2 PD = some (.frz o1 u1) := by
  show (upd (upd H PD (.frz o1 u1)) SD (.frz o2 u2)) PD = _
  rw [upd_ne n]; exact upd_same
theorem lock2_s {o1 o2 : Obj} {u1 u2 : HO} : lock2 H PD SD o1 o2 u1 u2 SD = some (.frz o2 u2) := upd_same
theorem KI.lock (h : KI CD CB CS CI CT CN U N B H5 H D PD SD y pg sg M σ G g) {o1 o2 : Obj} (hf : ∀ x ∈ ENT, B.f x ∈ chs x) (k1 : 1 ≤ B.keep) (k20 : B.keep ≤ 20) (lU : U.length ≤ 400) (lN : N.length ≤ 400) :
    DkPre CD CB CS CI U N B [SD, PD, y.bg] (lock2 H PD SD o1 o2 (.dK (mkI M pg)) (.dK (mkI M sg))) D y σ G g ∧ Same (dels [D, y.bg, PD, SD] H) (dels [D, y.bg, PD, SD] (lock2 H PD SD o1 o2 (.dK (mkI M pg)) (.dK (mkI M sg)))) := by
  obtain ⟨n1, n2, n3, n4, n5, n6⟩ := h.ds
  have d1 : DkAt CD CB CS CI U N B [SD, PD, y.bg] (upd H PD (.frz o1 (.dK (mkI M pg)))) D y σ G g [] := h.dk.chg (c := PD) (fun b o e z => by rw [upd_ne e]; exact z) (by simp) h.ne.2.1 n1 n4
  refine ⟨{ dk := d1.chg (c := SD) (fun b o e z => (upd_ne e).trans z) (by simp) h.ne.2.2 n2 n5, lk := fun b hb => ?_, hf := hf, k1 := k1, k20 := k20, lU := lU, lN := lN }, ?_⟩
  · simp only [List.mem_cons, List.not_mem_nil, or_false] at hb
    rcases hb with e | e | e
    · rw [e]; exact .inr ⟨_, _, lock2_s⟩
    · rw [e]; exact .inr ⟨_, _, lock2_p h.ne.1⟩
    · exact .inl e
  · exact dels_same fun b o m z => lock2_o (fun e => m (by simp [e])) (fun e => m (by simp [e])) z
theorem KI.unlock (h : KI CD CB CS CI CT CN U N B H5 H D PD SD y pg sg M σ G g) {o1 o2 : Obj} (km : ∀ b o, b ≠ D → (lock2 H PD SD o1 o2 (.dK (mkI M pg)) (.dK (mkI M sg))) b = some o → H' b = some o) (D1 : DkAt CD CB CS CI U N B [SD, PD, y.bg] H' D y σ' G g []) :
    H' SD = some (.frz o2 (.dK (mkI M sg))) ∧ (upd H' SD (.dK (mkI M sg))) PD = some (.frz o1 (.dK (mkI M pg))) ∧ KI CD CB CS CI CT CN U N B H5 (upd (upd H' SD (.dK (mkI M sg))) PD (.dK (mkI M pg))) D PD SD y pg sg M σ' G g := by
  obtain ⟨n1, n2, n3, n4, n5, n6⟩ := h.ds
  have e1 : H' SD = some (.frz o2 (.dK (mkI M sg))) := km _ _ (Ne.symm n2) lock2_s
  have e2 : H' PD = some (.frz o1 (.dK (mkI M pg))) := km _ _ (Ne.symm n1) (lock2_p h.ne.1)
  have s : Same (dels [D, y.bg, PD, SD] H) (dels [D, y.bg, PD, SD] (upd (upd H' SD (.dK (mkI M sg))) PD (.dK (mkI M pg)))) := dels_same fun b o m z => by
    have a1 : b ≠ PD := fun e => m (by simp [e])
    have a2 : b ≠ SD := fun e => m (by simp [e])
    rw [upd_ne a1, upd_ne a2]
    exact km b o (fun e => m (by simp [e])) (lock2_o a1 a2 z)
  have d1 : DkAt CD CB CS CI U N B [SD, PD, y.bg] (upd H' SD (.dK (mkI M sg))) D y σ' G g [] := D1.chg (c := SD) (fun b o e z => by rw [upd_ne e]; exact z) (by simp) h.ne.2.2 n2 n5
  refine ⟨e1, by rw [upd_ne h.ne.1]; exact e2, { dk := d1.chg (c := PD) (fun b o e z => by rw [upd_ne e]; exact z) (by simp) h.ne.2.1 n1 n4, pd := upd_same, sd := by rw [upd_ne (Ne.symm h.ne.1)]; exact upd_same, pp := fun n hn => ?_, sm := h.sm.trans s, ne := h.ne }⟩
  obtain ⟨p, e, z⟩ := h.pp n hn
  exact ⟨p, e, z.same s⟩
end
end
end K16

namespace K16
open PySem L2 SI CM BK OWN MIR StX TX TL
section
variable {w : World} {K : PySem.W.Frag} {mg : Str → Option Value} {base : Heap} (T : Txt w K mg)
def stpL : Stp → List V
  | .req k s n => [.str k, .int s, .str n]
  | .com s => [.str "commit", .int s]
  | .abo s => [.str "abort", .int s]
theorem StpAt.L {H : Hp} {q : Addr} : ∀ {x : Stp}, StpAt H q x → H q = some (.tup (stpL x))
  | .req _ _ _, h => h
  | .com _, h => h
  | .abo _, h => h
theorem stpL_one (x : Stp) : atI (stpL x) 1 = some (.int x.who) := by cases x <;> rfl
theorem KI.getP {CD CB CS CI CT CN : Addr} {U : List Int} {N : List Str} {B : Bkm} {H5 H : Hp} {D PD SD : Addr} {y : DkA} {pg sg : Int → V} {M : List Int} {σ : MIR.S} {G : List Int} {g : Int} (h : KI CD CB CS CI CT CN U N B H5 H D PD SD y pg sg M σ G g) {n : Int} (hn : n ∈ M) : DGet H PD (.int n) (some (pg n)) := by
  have z := DGet.k (k := Sum.inl n) h.pd
  rw [valL Sum.inl (fun _ _ e => Sum.inl.inj e) pg hn] at z
  exact z
theorem KI.getS {CD CB CS CI CT CN : Addr} {U : List Int} {N : List Str} {B : Bkm} {H5 H : Hp} {D PD SD : Addr} {y : DkA} {pg sg : Int → V} {M : List Int} {σ : MIR.S} {G : List Int} {g : Int} (h : KI CD CB CS CI CT CN U N B H5 H D PD SD y pg sg M σ G g) {n : Int} (hn : n ∈ M) : DGet H SD (.int n) (some (sg n)) := by
  have z := DGet.k (k := Sum.inl n) h.sd
  rw [valL Sum.inl (fun _ _ e => Sum.inl.inj e) sg hn] at z
  exact z
theorem get_frz {H : Hp} {d : Addr} {o : Obj} {M : List Int} {g : Int → V} {n : Int} (h : H d = some (.frz o (.dK (mkI M g)))) (hn : n ∈ M) : DGet H d (.int n) (some (g n)) :=
  .inl ⟨mkI M g, Sum.inl n, .inr ⟨o, h⟩, rfl, (valL Sum.inl (fun _ _ e => Sum.inl.inj e) g hn).symm⟩
theorem numOk_of {n : Int} (h0 : 0 ≤ n) (h : n ≤ 6 * 10 ^ 28) : NumOk n := by
  unfold NumOk
  by_cases c : n.natAbs = 0
  · rw [c]; decide
  · have z : n.natAbs.log2 < 96 := by
      rw [Nat.log2_lt c]
      exact Nat.lt_of_le_of_lt (m := 6 * 10 ^ 28) (by omega) (by decide)
    omega
theorem trn_ty {H : Hp} {q dy : Addr} {fs : List (Str × V)} (h : H q = some (.ins T.c_Transaction dy fs)) : TyX K H (.ref q) (.ref T.c_Transaction) := .base (.ins h T.cl_Transaction T.isi_Transaction.ha T.isg.hn T.isg.ht T.isi_Transaction.hm)
def spLaw (K : PySem.W.Frag) : Sp := fun vs H Q _ => ∃ (a : Addr) (ns : List Int), vs = [.ref a] ∧ SqL K H a (ns.map V.int) ∧ ns.length ≤ 63 ∧ ∀ H', Q (.bl true) H'
theorem ok_law : FnOk PP w K mg base CX0 30 T.f_law T.d_law ["_law_script"] (spLaw K) := by
  refine T.F_law.ok sc_law (fun vs H Q E h => ?_) (fun cdv A outer s H vs Q E hr h => ?_)
  · obtain ⟨a, ns, rfl, _⟩ := h
    rfl
  · obtain ⟨a, ns, rfl, hS, hlen, k⟩ := h
    obtain ⟨gk, hkb_Desk_begin⟩ := kbBegK T
    obtain ⟨g_kbEK, hkbEK⟩ := kbEK T
    refine ⟨_, pss_cons (ps_set (i := 1) sc_law.nd rfl (.inl rfl) (pe_call (ok_terms T) (hr.mono (by decide)) (by rfl) T.g_law_terms T.F_law_terms.kp (b_law_terms T) .nil pass0 (pa_cons (pv 0) pa_nil)))
 (pss_cons (ps_set (i := 2) sc_law.nd rfl (.inl rfl) (pe_makeK (n := 1) T.mk_Book (ok_Book_init T) (hr.mono (by decide)) (by rfl) T.g_Book hkbEK passL (pa_cons (pe_ix ix_tup (pv 1) pe_int (fun _ _ => rfl)) pa_nil) (pk_cons (pe_ix ix_tup (pv 1) pe_int (fun _ _ => rfl)) (pk_cons (pe_ix ix_tup (pv 1) pe_int (fun _ _ => rfl)) pk_nil))))
 (pss_cons (ps_set (i := 3) sc_law.nd rfl (.inl rfl) (pe_call (ok_run T) (hr.mono (by decide)) (by rfl) T.g_law_run T.F_law_run.kp (b_law_run T) .nil pass0 (pa_cons (pv 0) (pa_cons pe_int pa_nil))))
 (pss_cons (ps_set (i := 4) sc_law.nd rfl (.inl rfl) (pe_call (ok_play T) (hr.mono (by decide)) (by rfl) T.g_play T.F_play.kp (b_play T) .nil passL (pa_cons (pv 2) (pa_cons (pv 3) pa_nil))))
 (pss_cons (ps_set (i := 5) sc_law.nd rfl (.inl rfl) (pe_make T.mk_Desk (ok_Desk_init T) (hr.mono (by decide)) (by rfl) T.g_Desk (b_Desk_init T) .nil pass0 (pa_cons (pv 2) pa_nil)))
 (pss_cons (ps_set (i := 6) sc_law.nd rfl (.inl rfl) pe_dnewK)
 (pss_cons (ps_set (i := 7) sc_law.nd rfl (.inl rfl) pe_dnewK)
 (C8.pss_cut (ps_for PassesOwn.never rfl (pi_list (pe_callB cr_sortedI (by rfl) T.n_sorted (by decide +kernel) (pa_cons (pe_lc (own := [("_law_step", 9)]) (g := gName 9) (tt := tYes) (by rfl) sc_law.nd (pi_list (pv 3)) (blkOk_by (N := ["_law_script", "_law_terms_here", "_law_book", "_law_run_here", "_law_told", "_law_desk", "_law_people", "_law_states", "_law_mark", "_law_step", "_law_k"]) (sc := defScope s_law) (by decide +kernel)) (fun _ _ _ _ _ => pg_name (i := 9) sc_law.nd rfl (Or.inl rfl)) (fun _ _ _ _ _ => pts_nil) (fun _ _ _ _ _ => (pe_callTy call_int1 (by rfl) T.n_int (by decide +kernel) (pa_cons (pe_ix (r := rIxT K) ix_tup (pv 9) pe_int (fun _ _ => rfl)) pa_nil)))) pa_nil))) (pg_name (i := 8) sc_law.nd rfl (.inl rfl))
 (pss_one (ps_if (pt_cmp (pc_dnotin (hu_of hr) (pv 8) (pv 6)))
 (pss_cons (ps_dput (hu_of hr) (pv 6) (pv 8) (MK.pe_methK (pv 5) T.cl_Desk T.m_Desk_begin (ok_Desk_begin T) (hr.mono (by decide)) hkb_Desk_begin (fun σ => OWN.passAll passL σ) (pk_cons (pv 8) pk_nil)) rfl)
 (pss_cons (ps_dput (hu_of hr) (pv 7) (pv 8) pe_str rfl)
 (pss_cons (ps_if (PW.pt (pw_or (pt_not (pt_val (pe_callB call_isi (by rfl) T.n_isinstance (by decide +kernel) (pa_cons (pe_dget (hu_of hr) (pv 6) (pv 8) (fun _ _ => rfl)) (pa_cons (pe_glob (v := .ref T.c_Reader) (by rfl) T.g_Reader rfl) pa_nil))))) (pw_or1 (pt_not (pt_val (pe_callB call_isi (by rfl) T.n_isinstance (by decide +kernel) (pa_cons (pe_dget (hu_of hr) (pv 6) (pv 8) (fun _ _ => rfl)) (pa_cons (pe_glob (v := .ref T.c_Writer) (by rfl) T.g_Writer rfl) pa_nil))))))))
 (pss_one (ps_ret pe_bl))
 pss_nil)
 (pss_one (ps_if (pt_not (pt_val (pe_callB call_isi (by rfl) T.n_isinstance (by decide +kernel) (pa_cons (pe_dget (hu_of hr) (pv 6) (pv 8) (fun _ _ => rfl)) (pa_cons (pe_glob (v := .ref T.c_Transaction) (by rfl) T.g_Transaction rfl) pa_nil)))))
 (pss_one (ps_ret pe_bl))
 pss_nil)))))
 pss_nil)))
 (pss_cons (ps_for PassesOwn.never rfl (pi_range1 rfl T.n_range (pa_cons (pe_callB call_len_seq (by rfl) T.n_len PySem.boot_len (pa_cons (pv 3) pa_nil)) pa_nil)) (pg_name (i := 10) sc_law.nd rfl (.inl rfl))
 (pss_cons (ps_lock (ps_lock (ps_if (pt_not (pt_val (pe_call (ok_lagrees T) (hr.mono (by decide)) (by rfl) T.g_law_agrees T.F_law_agrees.kp (b_law_agrees T) .nil pass0 (pa_cons (pe_call (ok_lasked T) (hr.mono (by decide)) (by rfl) T.g_law_asked T.F_law_asked.kp (b_law_asked T) .nil pass0 (pa_cons (pe_dget (hu_of hr) (pv 6) (pe_ix ix_tup (pe_ix ix_list (pv 3) (pv 10) (fun _ _ => rfl)) pe_int (fun _ _ => rfl)) (fun _ _ => rfl)) (pa_cons (pe_ix ix_list (pv 3) (pv 10) (fun _ _ => rfl)) (pa_cons (pe_op op_add (pv 10) pe_int) pa_nil)))) (pa_cons (pe_ix ix_list (pv 3) (pv 10) (fun _ _ => rfl)) (pa_cons (pe_ix ix_list (pv 4) (pv 10) (fun _ _ => rfl)) pa_nil))))))
 (pss_one (ps_ret pe_bl))
 pss_nil)))
 (C8.pss_cut (ps_for PassesOwn.never rfl (pi_tup (pe_ix ix_tup (pe_ix ix_list (pv 4) (pv 10) (fun _ _ => rfl)) pe_int (fun _ _ => rfl))) (pg_name (i := 8) sc_law.nd rfl (.inl rfl))
 (pss_one (ps_dput (hu_of hr) (pv 7) (pv 8) pe_str rfl)))
 (C8.pss_cut (ps_if (pt_cmpR op_eq (pe_ix ix_tup (pe_ix ix_list (pv 4) (pv 10) (fun _ _ => rfl)) pe_int (fun _ _ => rfl)) pe_str (nomark _))
 (pss_one (ps_dput (hu_of hr) (pv 7) (pe_ix ix_tup (pe_ix ix_list (pv 3) (pv 10) (fun _ _ => rfl)) pe_int (fun _ _ => rfl)) pe_str rfl))
 pss_nil)
 (pss_one (ps_lock (ps_for PassesOwn.never rfl (pi_keys (pv 7)) (pg_name (i := 8) sc_law.nd rfl (.inl rfl))
 (pss_one (ps_if (PW.pt (pw_or (pt_cmpR op_ne (pe_meth (pv 5) T.cl_Desk T.m_Desk_state_of (ok_Desk_state_of T) (hr.mono (by decide)) (b_Desk_state_of T) .nil passL (pa_cons (pv 8) pa_nil)) (pe_dget (hu_of hr) (pv 7) (pv 8) (fun _ _ => rfl)) (nomark _)) (pw_or1 (pt_cmpR op_ne (pe_fld (pe_fld (pe_dget (hu_of hr) (pv 6) (pv 8) (fun _ _ => rfl)) rfl) rfl) (pv 8) (nomark _)))))
 (pss_one (ps_ret pe_bl))
 pss_nil)))))))))
 (pss_one (ps_ret pe_bl)))))))))), ?_⟩
    refine ⟨_, rfl, a, ns, rfl, hS, hlen, fun H1 p t f r kq s1 np nt ht => ?_⟩
    have G := ht.2.2.1
    have kq1 := ht.2.2.2.1
    have kq20 := ht.2.2.2.2
    refine ⟨_, rfl, p, _, _, .ref t, rfl, rfl, SqT.of ht.1, rfl, _, rfl, p, _, _, .str r, rfl, rfl, SqT.of ht.1, rfl, _, rfl, p, _, _, .int (kq : Int), rfl, rfl, SqT.of ht.1, rfl, rfl, rfl, fun b dx nb ndx _ => mk_book (gv := ENT.map fun e => (e, V.str (f e))) (.inr ⟨t, rfl, by rw [← tabS_prs]; exact ht.2.1⟩) G.en G.kp (ok_tab G.an) nb ndx fun H2 d s2 nd B => ⟨rfl, ?_⟩⟩
    have B := Bk.congr B (f' := f) fun x hx => by rw [fill_tab ent_nodup, if_pos hx]
    have s12 := s1.trans s2
    refine ⟨_, rfl, a, ns, 2, rfl, s12.seq hS, hlen, by decide, fun H3 rp ws xs ms nl s3 nrp R lx lm ln => ?_⟩
    have LR := R.l lx
    have B3 := B.same s3
    have lw : ws.length = xs.length := F2.len LR.run
    have le := LR.le
    have wh : ∀ x ∈ xs, 1 ≤ x.who ∧ x.who ≤ 6 * 10 ^ 28 := fun x hx => by
      have h := R.ins x hx
      have g : ∃ m ∈ ms, x.who = (m : Int) := by
        cases x with
        | req k s n => exact h.2.1
        | com s => exact h
        | abo s => exact h
      obtain ⟨m, hm, e⟩ := g
      have := R.mks.2 m hm
      rw [e]; omega
    have bad : ∀ (zs : List Stp) (i : Nat), (zs.map fun _ => true)[i]? = some false → False := fun zs i hi => by
      rw [List.getElem?_map] at hi
      cases q : zs[i]? with
      | none => rw [q] at hi; cases hi
      | some x => rw [q] at hi; cases hi
    have RQ : RunQ K H3 rp ws (xs.map fun _ => true) xs := { seq := SqL.of LR.at_, prt := LR.prt, le := by rw [lw]; omega, run := fun _ => ⟨LR.run, LR.kd⟩ }
    refine ⟨_, rfl, _, rfl, b, dx, d, f, r, kq, rp, ws, xs.map (fun _ => true), xs, rfl, B3, G.an, kq1, kq20, RQ, fun _ H4 tl s4 ntl ot => ?_, fun i hi => (bad xs i hi).elim⟩
    have B4 := B3.same s4
    have LR4 := LR.same s4
    refine ⟨_, rfl, fun D dxD nD ndD neD => ⟨D, b, dxD, dx, d, ⟨f, r, kq⟩, rfl, upd_same, ?_, G, fun H5 y km n1 n2 hD => ⟨rfl, ?_⟩⟩⟩
    · exact ⟨by rw [upd_ne (ne_of_none B4.ins nD), upd_ne (ne_of_none B4.ins ndD)]; exact B4.ins, by rw [upd_ne (ne_of_none B4.tbl nD), upd_ne (ne_of_none B4.tbl ndD)]; exact B4.tbl⟩
    have sX : ∀ x o, H4 x = some o → (upd (upd H4 dxD (.own D)) D (.ins T.c_Desk dxD [])) x = some o := fun x o z => by rw [upd_ne (ne_of_none z nD), upd_ne (ne_of_none z ndD)]; exact z
    have s5 : Same H4 H5 := fun x o z => km x o (ne_of_none z nD) (sX x o z)
    have nbg : H4 y.bg = none := by
      cases e : H4 y.bg with
      | none => rfl
      | some o => rw [sX _ _ e] at n1; cases n1
    have D5 := hD (usOf xs) (nsOf xs) [] fun x hx => by cases hx
    clear hD km n1 n2 sX
    refine fun PD nPD => fun SD nSD => ?_
    have s6 := same_new (o := .dK []) (Same.refl H5) nPD
    have s7 := same_new (o := .dK []) (Same.refl (upd H5 PD (.dK []))) nSD
    have hP7 : (upd (upd H5 PD (.dK [])) SD (.dK [])) PD = some (.dK []) := kp nSD upd_same
    have hS7 : (upd (upd H5 PD (.dK [])) SD (.dK [])) SD = some (.dK []) := upd_same
    have nPS : PD ≠ SD := fun e => by rw [← e, upd_same] at nSD; cases nSD
    obtain ⟨kv5, hbg5, _⟩ := D5.bg.ex
    have D7 := (D5.more s6 nPD).more s7 nSD
    have bP : y.bg ≠ PD := ne_of_none hbg5 nPD
    have bS : y.bg ≠ SD := ne_of_none (s6 _ _ hbg5) nSD
    have s57 := s6.trans s7
    have I : KI T.c_Desk T.c_Book T.c_State T.c_Item T.c_Transaction T.c_Stamp (usOf xs) (nsOf xs) ⟨f, r, kq⟩ H4 (upd (upd H5 PD (.dK [])) SD (.dK [])) D PD SD y (fun _ => .non) (fun _ => .non) [] s0 [] 0 :=
      { dk := D7, pd := hP7, sd := hS7, pp := (fun n hn => by cases hn), sm := fun x o z => dels_of (by
          simp only [List.mem_cons, List.not_mem_nil, or_false]
          rintro (e | e | e | e)
          · exact ne_of_none z nD e
          · exact ne_of_none z nbg e
          · exact ne_of_none (s5 _ _ z) nPD e
          · exact ne_of_none (s6 _ _ (s5 _ _ z)) nSD e) (s57 _ _ (s5 _ _ z)), ne := ⟨nPS, bP, bS⟩ }
    generalize upd (upd H5 PD (.dK [])) SD (.dK []) = H7 at I ⊢
    clear s6 s7 hP7 hS7 nPD nSD D7 D5 s57 hbg5 s5 nbg bP bS
    -- the transactions are begun
    refine ⟨fun τ H' => ∃ (M : List Int) (pg sg : Int → V) (G : List Int) (g : Int) (v8 v9 : Option V), τ = [some (.ref a), some (.ref p), some (.ref b), some (.ref rp), some (.ref tl), some (.ref D), some (.ref PD), some (.ref SD), v8, v9, none] ∧ KI T.c_Desk T.c_Book T.c_State T.c_Item T.c_Transaction T.c_Stamp (usOf xs) (nsOf xs) ⟨f, r, kq⟩ H4 H' D PD SD y pg sg M s0 G g ∧ (∀ n ∈ M, sg n = .str "open" ∧ n ∈ G ∧ n ∈ usOf xs) ∧ (∀ x ∈ xs, x.who ∈ M) ∧ M.length ≤ 100, ?_, ?_⟩
    · refine ⟨_, rfl, rp, rfl, ⟨_, SqL.of (I.got _ _ LR4.at_)⟩, fun Dl nDl => ?_⟩
      refine lc_list (xs := ws) (fun i H' => H' Dl = some (.lst ((((xs.take i).map Stp.who)).map V.int)) ∧ Same H7 H') ⟨upd_same, same_new (Same.refl H7) nDl⟩ (fun i H' _ h => SqL.of (h.2 _ _ (I.got _ _ LR4.at_))) ?_ ?_
      · rintro i v H8 hx ⟨hDl, s8⟩
        obtain ⟨x, hxx, q, rfl, hq⟩ := F2.at LR4.run hx
        have hi : i < xs.length := (List.getElem?_eq_some_iff.mp hxx).1
        refine ⟨rfl, _, rfl, q, _, _, .int x.who, rfl, rfl, SqT.of (hq.same (I.got.trans s8)).L, stpL_one x, .inl ⟨_, rfl, _, hDl, small1000 (by rw [List.length_map, List.length_map, List.length_take]; omega), ?_, fun b o z => by rw [upd_ne (ne_of_none z nDl)]; exact s8 b o z⟩⟩
        rw [upd_same, List.take_add_one, hxx, List.map_append, List.map_append]; rfl
      rintro H8 ⟨hDl, s8⟩
      rw [lw, List.take_length] at hDl
      refine ⟨Dl, xs.map Stp.who, rfl, SqL.of hDl, fun ms' p' pm so np' => ⟨p', rfl, ⟨_, SqL.of upd_same⟩, ?_⟩⟩
      have I9 := I.same (s8.trans (same_new (o := .lst (ms'.map V.int)) (Same.refl H8) np'))
      have hp' : (upd H8 p' (.lst (ms'.map V.int))) p' = some (.lst (ms'.map V.int)) := upd_same
      generalize upd H8 p' (.lst (ms'.map V.int)) = H9 at I9 hp' ⊢
      have lm' : ms'.length ≤ 100 := by rw [pm.length_eq, List.length_map]; omega
      have mb : ∀ m ∈ ms', m ∈ usOf xs ∧ 1 ≤ m ∧ m ≤ 6 * 10 ^ 28 := fun m hm => by
        have hu := pm.mem_iff.mp hm
        obtain ⟨y, hy, rfl⟩ := List.mem_map.mp hu
        exact ⟨hu, wh y hy⟩
      refine for_list (K := K) (a := p') (xs := ms'.map V.int) (fun i τ H' => ∃ (M : List Int) (pg sg : Int → V) (G : List Int) (g : Int) (v8 v9 : Option V), τ = [some (.ref a), some (.ref p), some (.ref b), some (.ref rp), some (.ref tl), some (.ref D), some (.ref PD), some (.ref SD), v8, v9, none] ∧ KI T.c_Desk T.c_Book T.c_State T.c_Item T.c_Transaction T.c_Stamp (usOf xs) (nsOf xs) ⟨f, r, kq⟩ H4 H' D PD SD y pg sg M s0 G g ∧ (∀ n ∈ M, sg n = .str "open" ∧ n ∈ G ∧ n ∈ usOf xs) ∧ (∀ n, n ∈ M ↔ n ∈ ms'.take i) ∧ M.length ≤ i ∧ G.length ≤ i ∧ ((g = 0 ∧ M = []) ∨ g ∈ M) ∧ H' p' = some (.lst (ms'.map V.int)))
        ⟨[], _, _, [], 0, none, none, rfl, I9, (fun n hn => by cases hn), fun n => Iff.rfl, Nat.le_refl _, Nat.le_refl _, .inl ⟨rfl, rfl⟩, hp'⟩ (fun i τ H' _ ⟨_, _, _, _, _, _, _, _, _, _, _, _, _, _, z⟩ => SqL.of z) ?_ ?_
      · rintro i v τ H10 hx ⟨M, pg, sg, G', g, v8, v9, rfl, J, oM, mM, lM, lG, hg, hp10⟩
        rw [List.getElem?_map] at hx
        cases hm : ms'[i]? with
        | none => rw [hm] at hx; cases hx
        | some m =>
        rw [hm] at hx
        cases hx
        have hi : i < ms'.length := (List.getElem?_eq_some_iff.mp hm).1
        have et : ms'.take (i + 1) = ms'.take i ++ [m] := by rw [List.take_add_one, hm]; rfl
        obtain ⟨mu, m1, m2⟩ := mb m (List.mem_of_getElem? hm)
        have dg := DGet.k (k := Sum.inl m) J.pd
        by_cases c : m ∈ M
        · rw [valL Sum.inl (fun _ _ e => Sum.inl.inj e) pg c] at dg
          refine ⟨_, rfl, _, rfl, PD, _, rfl, dg, _, rfl, ?_⟩
          refine iteF ⟨M, pg, sg, G', g, _, v9, rfl, J, oM, fun x => ?_, by omega, by omega, hg, hp10⟩
          rw [et, List.mem_append, List.mem_singleton, mM]
          exact ⟨.inl, fun h => h.elim id fun e => (mM x).mp (by rw [e]; exact c)⟩
        · have lt : ∀ x ∈ M, x < m := fun x hx => by
            have h1 := (mM x).mp hx
            obtain ⟨j, hj, ej⟩ := List.mem_iff_getElem.mp h1
            rw [List.length_take] at hj
            rw [List.getElem_take] at ej
            have h2 := List.pairwise_iff_getElem.mp so j i (by omega) hi (by omega)
            have em : ms'[i] = m := (List.getElem?_eq_some_iff.mp hm).2
            rw [ej, em] at h2
            have : x ≠ m := fun e => c (by rw [← e]; exact hx)
            omega
          have gm : 0 ≤ g ∧ g + 1 ≤ m := by
            rcases hg with ⟨rfl, _⟩ | hg
            · exact ⟨Int.le_refl _, by omega⟩
            · have h1 := lt g hg
              have h2 := (mb g (List.mem_of_mem_take ((mM g).mp hg))).2.1
              exact ⟨by omega, by omega⟩
          have top : m ≤ top30 := by
            have : (6 * 10 ^ 28 : Int) ≤ top30 := by decide
            omega
          rw [valN Sum.inl (fun _ _ e => Sum.inl.inj e) pg c] at dg
          obtain ⟨st, hDi, _⟩ := J.dk.st
          refine ⟨_, rfl, _, rfl, PD, _, rfl, dg, _, rfl, ?_⟩
          refine iteT ⟨_, rfl, D, y.dx, _, rfl, hDi, (by kernel_rfl), _, rfl, rfl, usOf xs, nsOf xs, ⟨f, r, kq⟩, [SD, PD, y.bg], D, y, s0, G', g, .int m, rfl, rfl, J.dk, gm.1, by omega, fun n e1 e2 H11 pp dxp sp km npp hpp hsp D11 => ?_, fun z => ?_⟩
          · cases e1
            have J1 := J.beg km D11
            obtain ⟨n1, n2, n3, n4, n5, n6⟩ := J.ds
            obtain ⟨kvb, hbgJ, _⟩ := J.dk.bg.ex
            have pn : ∀ {z : Addr} {o : HO}, H10 z = some o → pp ≠ z := fun {z} {o} h e => by rw [e, h] at npp; cases npp
            obtain ⟨st1, hD1, _⟩ := J1.dk.st
            obtain ⟨kvb1, hbg1, _⟩ := J1.dk.bg.ex
            obtain ⟨dsp, hsp⟩ := hsp
            have tr : TrS T.c_Transaction T.c_Stamp (dels [D, y.bg, PD, SD] H11) pp D m := by
              refine ⟨dxp, sp, y.lf, dsp, dels_of ?_ hpp, dels_of ?_ hsp⟩
              · simp only [List.mem_cons, List.not_mem_nil, or_false]
                rintro (e | e | e | e)
                · exact pn hDi e
                · exact pn hbgJ e
                · exact pn J.pd e
                · exact pn J.sd e
              · simp only [List.mem_cons, List.not_mem_nil, or_false]
                rintro (e | e | e | e)
                · rw [e, hD1] at hsp; exact absurd (HO.ins.inj (Option.some.inj hsp)).2.2 (by unfold dkF; simp)
                · rw [e, hbg1] at hsp; cases hsp
                · rw [e, J1.pd] at hsp; cases hsp
                · rw [e, J1.sd] at hsp; cases hsp
            have J2 := J1.put2 c tr (v := .str "open")
            have hp11 : H11 p' = some (.lst (ms'.map V.int)) := km _ _ (fun e => by rw [e, hDi] at hp10; cases hp10) (fun e => by rw [e, hbgJ] at hp10; cases hp10) hp10
            have hp12 : (upd (upd H11 PD (.dK (putK (mkI M pg) (Sum.inl m) (.ref pp)))) SD (.dK (putK (mkI M sg) (Sum.inl m) (.str "open")))) p' = some (.lst (ms'.map V.int)) := by
              rw [upd_ne (fun e => by rw [e, J1.sd] at hp11; cases hp11), upd_ne (fun e => by rw [e, J1.pd] at hp11; cases hp11)]; exact hp11
            refine ⟨_, rfl, _, rfl, PD, _, rfl, DPut.k (k := Sum.inl m) J1.pd (small1000 (by rw [List.length_map]; omega)), ?_⟩
            refine ⟨_, rfl, _, rfl, SD, _, rfl, DPut.k (k := Sum.inl m) (by rw [upd_ne (Ne.symm J1.ne.1)]; exact J1.sd) (small1000 (by rw [List.length_map]; omega)), ?_⟩
            generalize upd (upd H11 PD (.dK (putK (mkI M pg) (Sum.inl m) (.ref pp)))) SD (.dK (putK (mkI M sg) (Sum.inl m) (.str "open"))) = H12 at J2 hp12 ⊢
            have mm : m ∈ M ++ [m] := List.mem_append_right _ (List.mem_singleton.mpr rfl)
            have gp : DGet H12 PD (.int m) (some (.ref pp)) := by
              have z := J2.getP mm
              rw [if_pos rfl] at z
              exact z
            obtain ⟨p2, e2, dx2, sp2, lf2, ds2, h2, _⟩ := J2.per mm
            rw [if_pos rfl] at e2
            cases e2
            refine ⟨_, rfl, _, rfl, PD, .ref pp, rfl, gp, _, _, _, _, true, rfl, ClsV.own _, trn_ty T h2, T.kit_Transaction_Reader, _, rfl, ?_⟩
            refine iteF ⟨_, rfl, _, rfl, PD, .ref pp, rfl, gp, _, _, _, _, true, rfl, ClsV.own _, trn_ty T h2, T.kit_Transaction_Writer, _, rfl, ?_⟩
            refine iteF ⟨_, rfl, _, rfl, PD, .ref pp, rfl, gp, _, _, _, _, true, rfl, ClsV.own _, trn_ty T h2, T.kit_Transaction, _, rfl, ?_⟩
            refine iteF ⟨M ++ [m], _, _, m :: G', m, _, v9, rfl, J2, fun n hn => ?_, fun x => ?_, by rw [List.length_append]; show M.length + 1 ≤ _; omega, by show G'.length + 1 ≤ _; omega, .inr mm, hp12⟩
            · by_cases c2 : n = m
              · rw [c2]; exact ⟨if_pos rfl, List.mem_cons_self .., mu⟩
              · obtain ⟨o1, o2, o3⟩ := oM n ((List.mem_append.mp hn).resolve_right fun z => c2 (List.mem_singleton.mp z))
                exact ⟨(if_neg c2).trans o1, List.mem_cons_of_mem _ o2, o3⟩
            · rw [et, List.mem_append, List.mem_append, mM]
          · have : stampV (.int m) (g + 1) = true := by
              show (decide (g + 1 ≤ m) && decide (m ≤ top30)) = true
              rw [decide_eq_true gm.2, decide_eq_true top]
              rfl
            exact absurd (this.symm.trans z) (by decide)
      · rintro τ H10 ⟨M, pg, sg, G', g, v8, v9, rfl, J, oM, mM, lM, lG, hg, hp10⟩
        rw [List.length_map, List.take_length] at mM
        rw [List.length_map] at lM
        exact ⟨M, pg, sg, G', g, v8, v9, rfl, J, oM, fun x hx => (mM _).mpr (pm.mem_iff.mpr (List.mem_map.mpr ⟨x, hx, rfl⟩)), by omega⟩
    rintro τ H10 ⟨M, pg, sg, G', g, v8, v9, rfl, J, oM, mM, lM⟩
    clear I
    have lU : (usOf xs).length ≤ 400 := by rw [List.length_map]; omega
    have lN : (nsOf xs).length ≤ 400 := by rw [List.length_map]; omega
    obtain ⟨ts, htl, fts⟩ := ot
    refine ⟨_, rfl, rp, _, rfl, .inl (SqL.of (J.got _ _ LR4.at_)), _, rfl, by omega, by omega, for_range (lo := 0) (n := ws.length) (fun i τ H' => ∃ (sg : Int → V) (v8 v10 : Option V), τ = [some (.ref a), some (.ref p), some (.ref b), some (.ref rp), some (.ref tl), some (.ref D), some (.ref PD), some (.ref SD), v8, v9, v10] ∧ KI T.c_Desk T.c_Book T.c_State T.c_Item T.c_Transaction T.c_Stamp (usOf xs) (nsOf xs) ⟨f, r, kq⟩ H4 H' D PD SD y pg sg M (stN ⟨f, r, kq⟩ xs i) G' g ∧ ∀ n ∈ M, sg n = .str (stW ((stN ⟨f, r, kq⟩ xs i).ov n)))
      ⟨sg, v8, none, rfl, J, fun n hn => (oM n hn).1⟩ ?_ (fun τ H' _ => k H')⟩
    rintro i τ H11 hi ⟨sg1, v8', v10, rfl, I, oS⟩
    rw [Int.zero_add]
    have hi' : i < xs.length := by omega
    obtain ⟨x, hxx⟩ : ∃ x, xs[i]? = some x := ⟨_, List.getElem?_eq_getElem hi'⟩
    have hxm := List.mem_of_getElem? hxx
    obtain ⟨vq, gq, q, rfl, hq⟩ := F2.at' LR4.run hxx
    have atw : atI ws (i : Int) = some (.ref q) := atI_nat gq
    have hr : (List.range xs.length)[i]? = some i := List.getElem?_range hi'
    obtain ⟨tq, gt, OA, OS⟩ := F2.at' fts hr
    have att : atI (ts.map V.ref) (i : Int) = some (.ref tq) := atI_nat (by rw [List.getElem?_map, gt]; rfl)
    have wM := mM x hxm
    have hU : x.who ∈ usOf xs := List.mem_map.mpr ⟨x, hxm, rfl⟩
    have wfs := WFS.st (B := ⟨f, r, kq⟩) G.an LR.kd i
    have gd := out_good (B := ⟨f, r, kq⟩) G.an LR.kd LR.le i
    refine ⟨PD, .dK (mkI M pg), I.pd, trivial, fun o1 => ⟨SD, .dK (mkI M sg1), by rw [upd_ne (Ne.symm I.ne.1)]; exact I.sd, trivial, fun o2 => ?_⟩⟩
    obtain ⟨P, sL⟩ := I.lock (o1 := o1) (o2 := o2) G.an kq1 kq20 lU lN
    have sJ : Same H4 (lock2 H11 PD SD o1 o2 (.dK (mkI M pg)) (.dK (mkI M sg1))) := (I.sm.trans sL).trans dels_sub
    obtain ⟨pp, ep, trp⟩ := I.pp _ wM
    have trJ := trp.same (sL.trans dels_sub)
    have gp : DGet (lock2 H11 PD SD o1 o2 (.dK (mkI M pg)) (.dK (mkI M sg1))) PD (.int x.who) (some (.ref pp)) := by
      have z := get_frz (lock2_p I.ne.1 : (lock2 H11 PD SD o1 o2 (.dK (mkI M pg)) (.dK (mkI M sg1))) PD = _) wM
      rw [ep] at z
      exact z
    refine ⟨_, rfl, _, rfl, _, rfl, rp, _, _, .ref q, rfl, rfl, SqL.of (sJ _ _ LR4.at_), atw, q, _, _, .int x.who, rfl, rfl, SqT.of (hq.same sJ).L, stpL_one x, PD, .ref pp, rfl, gp, _, rfl, _, rfl, rp, _, _, .ref q, rfl, rfl, SqL.of (sJ _ _ LR4.at_), atw, _, rfl, _, _, rfl, rfl, ?_⟩
    refine ⟨usOf xs, nsOf xs, ⟨f, r, kq⟩, [SD, PD, y.bg], D, y, stN ⟨f, r, kq⟩ xs i, G', g, pp, q, (i : Int) + 1, x, rfl, trJ.at_, hq.same sJ, P, wfs, ?_, numOk_of (by have := (wh x hxm).1; omega) (wh x hxm).2, fun H12 qa km D12 hA => ?_⟩
    · cases x with
      | req k' s' n' => exact ⟨hU, List.mem_map.mpr ⟨_, hxm, rfl⟩, LR.kd _ hxm, fun _ => rfl⟩
      | com s' => exact hU
      | abo s' => exact hU
    have ez : (i : Int) + 1 = 1 + (i : Nat) := Int.add_comm ..
    rw [ez] at D12 hA
    rw [← stN_at hxx] at D12
    rw [← outN_at hxx] at hA
    have s12' : Same H4 H12 := fun b o z => km b o (ne_of_none z nD) (sJ b o z)
    refine ⟨_, rfl, _, rfl, rp, _, _, .ref q, rfl, rfl, SqL.of (s12' _ _ LR4.at_), atw, _, rfl, _, rfl, tl, _, _, .ref tq, rfl, rfl, SqL.of (s12' _ _ htl), att, qa, q, tq, x, outN ⟨f, r, kq⟩ xs i, rfl, hA, hq.same s12', OA.same s12', gd, _, rfl, ?_⟩
    refine iteF ?_
    obtain ⟨e1, e2, I1⟩ := I.unlock km D12
    refine ⟨e1, e2, ?_⟩
    generalize upd (upd H12 SD (.dK (mkI M sg1))) PD (.dK (mkI M pg)) = H13 at I1 ⊢
    clear P sL sJ trJ gp e1 e2 km D12 hA s12'
    have tov := fun n => take_ov (B := ⟨f, r, kq⟩) wfs G.an (LR.kd x hxm) hU (1 + (i : Nat)) n
    rw [← stN_at hxx, ← outN_at hxx] at tov
    have fsub : ∀ n ∈ (outN ⟨f, r, kq⟩ xs i).fallen, n ∈ M := fun n hn => by
      obtain ⟨z, hz, e⟩ := List.mem_map.mp (OS.1 n hn)
      rw [← e]; exact mM z hz
    -- who has fallen
    refine ⟨fun τ H' => ∃ (sg' : Int → V) (v8 : Option V), τ = [some (.ref a), some (.ref p), some (.ref b), some (.ref rp), some (.ref tl), some (.ref D), some (.ref PD), some (.ref SD), v8, v9, some (.int (i : Int))] ∧ KI T.c_Desk T.c_Book T.c_State T.c_Item T.c_Transaction T.c_Stamp (usOf xs) (nsOf xs) ⟨f, r, kq⟩ H4 H' D PD SD y pg sg' M (stN ⟨f, r, kq⟩ xs (i + 1)) G' g ∧ ∀ n, sg' n = if n ∈ (outN ⟨f, r, kq⟩ xs i).fallen then .str "aborted" else sg1 n, ?_, ?_⟩
    · obtain ⟨m', v', fl, h1, _, _, h4⟩ := OA.same I1.got
      refine ⟨_, rfl, _, rfl, tl, _, _, .ref tq, rfl, rfl, SqL.of (I1.got _ _ htl), att, tq, _, _, .ref fl, rfl, rfl, SqT.of h1, rfl, fl, rfl, ⟨_, SqT.of h4⟩, ?_⟩
      refine for_tup (K := K) (a := fl) (xs := (outN ⟨f, r, kq⟩ xs i).fallen.map V.int) (fun j τ H' => ∃ (sg' : Int → V) (v8 : Option V), τ = [some (.ref a), some (.ref p), some (.ref b), some (.ref rp), some (.ref tl), some (.ref D), some (.ref PD), some (.ref SD), v8, v9, some (.int (i : Int))] ∧ KI T.c_Desk T.c_Book T.c_State T.c_Item T.c_Transaction T.c_Stamp (usOf xs) (nsOf xs) ⟨f, r, kq⟩ H4 H' D PD SD y pg sg' M (stN ⟨f, r, kq⟩ xs (i + 1)) G' g ∧ (∀ n, sg' n = if n ∈ (outN ⟨f, r, kq⟩ xs i).fallen.take j then .str "aborted" else sg1 n) ∧ H' fl = some (.tup ((outN ⟨f, r, kq⟩ xs i).fallen.map V.int)))
        ⟨sg1, v8', rfl, I1, fun n => (if_neg List.not_mem_nil).symm, h4⟩ (fun j τ H' _ ⟨_, _, _, _, _, z⟩ => SqT.of z) ?_ ?_
      · rintro j v τ H14 hx ⟨sg', v8, rfl, I2, e2, h4'⟩
        rw [List.getElem?_map] at hx
        cases hm : (outN ⟨f, r, kq⟩ xs i).fallen[j]? with
        | none => rw [hm] at hx; cases hx
        | some m =>
        rw [hm] at hx
        cases hx
        have mM' := fsub m (List.mem_of_getElem? hm)
        refine ⟨_, rfl, _, rfl, SD, _, rfl, DPut.k (k := Sum.inl m) I2.sd (small1000 (by rw [List.length_map]; omega)), ?_⟩
        refine ⟨_, _, rfl, I2.puts mM', fun n => ?_, ?_⟩
        · rw [show (outN ⟨f, r, kq⟩ xs i).fallen.take (j + 1) = (outN ⟨f, r, kq⟩ xs i).fallen.take j ++ [m] by rw [List.take_add_one, hm]; rfl]
          by_cases c : n = m
          · rw [if_pos c, if_pos (List.mem_append_right _ (by rw [c]; exact List.mem_singleton.mpr rfl))]
          · rw [if_neg c, e2]
            by_cases c2 : n ∈ (outN ⟨f, r, kq⟩ xs i).fallen.take j
            · rw [if_pos c2, if_pos (List.mem_append_left _ c2)]
            · rw [if_neg c2, if_neg (fun z => (List.mem_append.mp z).elim c2 fun z => c (List.mem_singleton.mp z))]
        · rw [upd_ne (fun e => by rw [e, I2.sd] at h4'; cases h4')]; exact h4'
      · rintro τ H14 ⟨sg', v8, rfl, I2, e2, _⟩
        rw [List.length_map, List.take_length] at e2
        exact ⟨sg', v8, rfl, I2, e2⟩
    rintro τ H14 ⟨sg2, v8, rfl, I2, e2⟩
    -- who has committed
    refine ⟨fun τ H' => ∃ (sg' : Int → V), τ = [some (.ref a), some (.ref p), some (.ref b), some (.ref rp), some (.ref tl), some (.ref D), some (.ref PD), some (.ref SD), v8, v9, some (.int (i : Int))] ∧ KI T.c_Desk T.c_Book T.c_State T.c_Item T.c_Transaction T.c_Stamp (usOf xs) (nsOf xs) ⟨f, r, kq⟩ H4 H' D PD SD y pg sg' M (stN ⟨f, r, kq⟩ xs (i + 1)) G' g ∧ ∀ n ∈ M, sg' n = .str (stW ((stN ⟨f, r, kq⟩ xs (i + 1)).ov n)), ?_, ?_⟩
    · obtain ⟨m', v', fl, h1, _, _, h4⟩ := OA.same I2.got
      have wd : ∀ n ∈ M, (if (outN ⟨f, r, kq⟩ xs i).word = "commit" ∧ n = x.who then V.str "committed" else sg2 n) = V.str (stW ((stN ⟨f, r, kq⟩ xs (i + 1)).ov n)) := fun n hn => by
        rw [tov n]
        by_cases c : (outN ⟨f, r, kq⟩ xs i).word = "commit" ∧ n = x.who
        · rw [if_pos c, if_pos c]; rfl
        · rw [if_neg c, if_neg c, e2]
          by_cases c2 : n ∈ (outN ⟨f, r, kq⟩ xs i).fallen
          · rw [if_pos c2, if_pos c2]; rfl
          · rw [if_neg c2, if_neg c2]; exact oS n hn
      refine ⟨_, rfl, _, rfl, tl, _, _, .ref tq, rfl, rfl, SqL.of (I2.got _ _ htl), att, tq, _, _, .str (outN ⟨f, r, kq⟩ xs i).word, rfl, rfl, SqT.of h1, rfl, rfl, _, rfl, ?_⟩
      rw [ds]
      by_cases c : (outN ⟨f, r, kq⟩ xs i).word = "commit"
      · rw [decide_eq_true c]
        refine iteT ⟨_, rfl, _, rfl, _, rfl, rp, _, _, .ref q, rfl, rfl, SqL.of (I2.got _ _ LR4.at_), atw, q, _, _, .int x.who, rfl, rfl, SqT.of (hq.same I2.got).L, stpL_one x, SD, _, rfl, DPut.k (k := Sum.inl x.who) I2.sd (small1000 (by rw [List.length_map]; omega)), ?_⟩
        refine ⟨_, rfl, I2.puts wM, fun n hn => ?_⟩
        rw [← wd n hn]
        by_cases c2 : n = x.who
        · rw [if_pos c2, if_pos ⟨c, c2⟩]
        · rw [if_neg c2, if_neg (fun z => c2 z.2)]
      · rw [decide_eq_false c]
        refine iteF ⟨sg2, rfl, I2, fun n hn => ?_⟩
        rw [← wd n hn, if_neg (fun z => c z.1)]
    rintro τ H15 ⟨sg3, rfl, I3, e3⟩
    clear I1 I2 e2
    -- the desk says so
    obtain ⟨n1, n2, n3, n4, n5, n6⟩ := I3.ds
    refine ⟨SD, .dK (mkI M sg3), I3.sd, trivial, fun od => ⟨_, rfl, SD, od, rfl, .inl ⟨mkI M sg3, upd_same, for_it walk_keys (fun j τ H' => ∃ (v8 : Option V), τ = [some (.ref a), some (.ref p), some (.ref b), some (.ref rp), some (.ref tl), some (.ref D), some (.ref PD), some (.ref SD), v8, v9, some (.int (i : Int))] ∧ H' = upd H15 SD (.frz od (.dK (mkI M sg3))))
      ⟨v8, rfl, rfl⟩ (fun j τ H' _ ⟨_, _, z⟩ => by rw [z]; exact upd_same) ?_ ?_⟩⟩⟩
    · rintro j v τ Hz H16 hj ⟨v8'', rfl, eH⟩ ⟨rfl, kk1, vv1, hkv, rfl⟩
      rw [List.getElem?_map] at hkv
      cases hm : M[j]? with
      | none => rw [hm] at hkv; cases hkv
      | some m =>
      rw [hm] at hkv
      cases hkv
      rw [eH]
      have mM' := List.mem_of_getElem? hm
      have lk : ∀ b o, b ≠ SD → H15 b = some o → (upd H15 SD (.frz od (.dK (mkI M sg3)))) b = some o := fun b o e z => by rw [upd_ne e]; exact z
      have D16 : DkAt T.c_Desk T.c_Book T.c_State T.c_Item (usOf xs) (nsOf xs) ⟨f, r, kq⟩ [SD, PD, y.bg] (upd H15 SD (.frz od (.dK (mkI M sg3)))) D y (stN ⟨f, r, kq⟩ xs (i + 1)) G' g [] := I3.dk.chg (c := SD) lk (by simp) I3.ne.2.2 n2 n5
      obtain ⟨st, hDi, _⟩ := D16.st
      have mu : m ∈ usOf xs := (oM m mM').2.2
      have mG := (oM m mM').2.1
      obtain ⟨z, hz, ezm⟩ := List.mem_map.mp mu
      have bz := wh z hz
      have stv : stampV (.int m) 0 = true := by
        have : (6 * 10 ^ 28 : Int) ≤ top30 := by decide
        show (decide (0 ≤ m) && decide (m ≤ top30)) = true
        rw [decide_eq_true (by omega), decide_eq_true (by omega)]
        rfl
      refine ⟨_, rfl, D, y.dx, _, rfl, hDi, (by kernel_rfl), _, rfl, usOf xs, nsOf xs, ⟨f, r, kq⟩, [SD, PD, y.bg], D, y, stN ⟨f, r, kq⟩ xs (i + 1), G', g, m, rfl, D16, fun _ => stv, fun _ => ?_, fun hn => absurd mG hn⟩
      have gs : DGet (upd H15 SD (.frz od (.dK (mkI M sg3)))) SD (.int m) (some (.str (stW ((stN ⟨f, r, kq⟩ xs (i + 1)).ov m)))) := by
        have z := get_frz (n := m) (upd_same : (upd H15 SD (.frz od (.dK (mkI M sg3)))) SD = _) mM'
        rw [e3 m mM'] at z
        exact z
      obtain ⟨pp', ep', dx3, sp3, lf3, ds3, h3, h3'⟩ := I3.per mM'
      have gp : DGet (upd H15 SD (.frz od (.dK (mkI M sg3)))) PD (.int m) (some (.ref pp')) := by
        have z := DGet.k (k := Sum.inl m) (lk _ _ I3.ne.1 I3.pd)
        rw [valL Sum.inl (fun _ _ e => Sum.inl.inj e) pg mM', ep'] at z
        exact z
      have h4 := lk _ _ (fun e => by rw [e, I3.sd] at h3; cases h3) h3
      have h4' := lk _ _ (fun e => by rw [e, I3.sd] at h3'; cases h3') h3'
      refine ⟨_, rfl, _, rfl, SD, _, rfl, gs, rfl, _, rfl, ?_⟩
      rw [decide_eq_true rfl]
      refine iteF ⟨_, rfl, _, rfl, PD, .ref pp', rfl, gp, pp', T.c_Transaction, dx3, _, _, rfl, h4, T.cl_Transaction, T.na_Transaction_stamp, rfl, sp3, T.c_Stamp, ds3, _, _, rfl, h4', T.cl_Stamp, T.na_Stamp_number, rfl, _, rfl, rfl, _, rfl, ?_⟩
      rw [show decide (V.int m = kV (Sum.inl m)) = true from decide_eq_true rfl]
      exact iteF ⟨_, rfl, rfl⟩
    · rintro τ H16 ⟨v8'', rfl, eH⟩
      rw [eH]
      refine ⟨upd_same, sg3, v8'', _, rfl, I3.same (fun b o z => ?_), e3⟩
      by_cases c : b = SD
      · rw [c, upd_same, ← I3.sd, ← c]; exact z
      · rw [upd_ne c, upd_ne c]; exact z
end
end K16

namespace K16
open PySem L2
theorem walk {l : PySem.W.OpenLaw} {q : Program} {loose : List Str} {XP : (Str → Option Value) → Heap → Prop} {YP : World → Heap → Prop} {d : DefRec} {K : Params → PySem.W.Frag} (hn : l.most = some 63) (hdf : d.params.defaults = [])
    (hY : ∀ (w : World) (h : Heap), YP w h → (K w.params).In h)
    (F : ∀ (w : World) (mg : Str → Option Value) (fa : Addr) (h : Heap), (K w.params).In h → h.Ns mainGlobals mg → mg d.name = some (.ref fa) →
      ∃ fd : FuncData, (∀ (s : Shared) (u : Value), BindsTo s fd ⟨[u], []⟩ [("_law_script", u)]) ∧ ∀ base : Heap, (K w.params).In base → base.Ns mainGlobals mg → FnOk l.prog w (K w.params) mg base CX0 30 fa fd ["_law_script"] (spLaw (K w.params))) :
    PySem.W.WalkO q loose XP YP l.row.toRowW d [] (fun f vs => PySem.call f vs) :=
  L2.walk_of (n := 63) (k := 30) (x := "_law_script") (CX := fun _ => CX0) (sp := fun w => spLaw (K w.params)) hn (by decide) hdf ⟨rfl, by decide, by decide⟩ hY F (fun _ _ a ns hl _ hS => ⟨a, ns, rfl, hS, hl, fun _ => rfl⟩) fun _ _ _ _ _ z => z
theorem law_fd {w : World} {K : PySem.W.Frag} {mg : Str → Option Value} (T : Txt w K mg) : ∀ (s : Shared) (u : Value), BindsTo s T.d_law ⟨[u], []⟩ [("_law_script", u)] := by
  obtain ⟨⟨oc, od, kV, doc, pm, an, cdv, ct, osl, e, lk, hcd⟩, _⟩ := T.F_law
  rw [e]
  exact fun s u => .of_eq rfl
theorem fin {w : World} {K : PySem.W.Frag} {mg : Str → Option Value} {fa : Addr} (A : ∃ T : Txt w K mg, T.f_law = fa) : ∃ fd : FuncData, (∀ (s : Shared) (u : Value), BindsTo s fd ⟨[u], []⟩ [("_law_script", u)]) ∧ ∀ base : Heap, K.In base → base.Ns mainGlobals mg →
    FnOk PySem.Challenge.rw_stamprules_k16_a_desk_follows_the_run.prog w K mg base CX0 30 fa fd ["_law_script"] (spLaw K) := by
  obtain ⟨T, e⟩ := A
  subst e
  exact ⟨T.d_law, law_fd T, fun base _ _ => ok_law T⟩
end K16
namespace K16
open PySem PySem.W PySem.Calls PyProof.Rows
abbrev hdR : OpenRow := (PySem.W.OpenLaw.row PySem.Challenge.rw_stamprules_k16_a_desk_follows_the_run)
local macro_rules
  | `(tactic| o_head $_) => `(tactic| assumption)
set_option maxHeartbeats 0 in
theorem hd_k (h : hdR.Holds) : hdR.Holds := by k_head
abbrev hdQ : Program := view hdR.prog [97]
def hdN0 : List PySem.Str := ["_wall", "StampError", "BadStamp", "BadEntry", "BadAnswer", "BadSetting", "BadStep", "Finished", "MustWait", "TooLate", "BrokenOff", "GREATEST", "is_stamp", "Stamp", "place", "Item", "State", "first_state", "item_of", "ascending", "taken", "committed", "settled", "aborted", "without", "falling", "released", "requested", "asked", "entry_met"]
def hdN1 : List PySem.Str := ["fixed_answer", "older_values", "value_read", "binds", "with_bond", "with_reader", "with_item", "Desk", "Reader", "Writer", "Transaction", "DIGITS", "SIGNS", "LONGEST_NAME", "MOST_DIGITS", "LET_BY", "WORDS", "play", "lets_by", "traced", "check_run", "is_step", "is_name", "steps_of", "is_numeral", "WAYS", "MOST_COMMITS", "parting_runs", "parting_run", "shortest_first"]
def hdN2 : List PySem.Str := ["followed", "ways", "deep", "ENTRIES", "ANSWERS", "LEVELS", "MOST_KEPT", "answers_at", "level_of", "check_answer", "is_keep", "met_answer", "Book", "_law_cell", "_law_row", "_law_entries", "_law_choices", "_law_table", "_law_fits", "_law_sound", "_law_terms", "_law_marks", "_law_names", "_law_steps", "_law_one", "_law_run", "_law_ints", "_law_asked", "_law_agrees"]
def hdN : List PySem.Str := hdN0 ++ hdN1 ++ hdN2
def hdA0 : List Addr := [2, 3, 15, 17, 18, 20, 21, 22, 29, 30, 31, 32, 35, 38, 43, 44, 46, 47, 49, 50, 51, 52, 53, 56, 59, 64, 65, 67, 68, 70, 71, 72, 73, 74, 77, 80, 85, 86, 88, 89]
def hdA1 : List Addr := [91, 92, 93, 94, 95, 98, 101, 106, 107, 109, 110, 112, 113, 114, 115, 116, 119, 122, 127, 128, 130, 131, 133, 134, 135, 136, 137, 140, 143, 148, 149, 151, 152, 154, 155, 156, 157, 158, 161, 164]
def hdA2 : List Addr := [169, 170, 172, 173, 175, 176, 177, 178, 179, 182, 185, 190, 191, 193, 194, 196, 197, 198, 199, 200, 203, 206, 211, 212, 214, 215, 217, 218, 219, 220, 221, 224, 225, 227, 228, 230, 231, 239, 241, 242]
def hdA3 : List Addr := [244, 245, 246, 248, 249, 251, 252, 253, 255, 256, 258, 259, 260, 262, 263, 265, 266, 267, 269, 270, 272, 273, 274, 276, 277, 279, 280, 281, 283, 284, 286, 287, 288, 289, 290, 291, 292, 295, 297, 298]
def hdA4 : List Addr := [300, 301, 309, 311, 312, 314, 315, 316, 317, 318, 319, 320, 330, 332, 333, 335, 336, 337, 338, 339, 340, 341, 344, 346, 347, 349, 350, 351, 353, 354, 356, 357, 358, 361, 362, 363, 365, 366, 368, 369]
def hdA5 : List Addr := [370, 373, 374, 375, 377, 378, 380, 381, 382, 384, 385, 387, 388, 389, 392, 393, 394, 396, 397, 399, 400, 401, 403, 404, 406, 407, 408, 410, 411, 413, 414, 415, 417, 418, 420, 421, 422, 424, 425, 427]
def hdA6 : List Addr := [428, 429, 431, 432, 434, 435, 436, 439, 440, 441, 443, 444, 446, 447, 448, 450, 451, 453, 454, 455, 457, 458, 460, 461, 462, 464, 465, 467, 468, 469, 471, 472, 474, 475, 483, 485, 486, 488, 489, 490]
def hdA7 : List Addr := [491, 493, 494, 496, 497, 498, 500, 501, 503, 504, 505, 507, 508, 510, 511, 512, 514, 515, 517, 518, 519, 521, 522, 524, 525, 526, 528, 529, 531, 532, 533, 535, 536, 538, 539, 540, 542, 543, 545, 546]
def hdA8 : List Addr := [547, 548, 549, 550, 551, 561, 563, 564, 566, 567, 568, 569, 570, 571, 572, 582, 584, 585, 587, 588, 589, 590, 591, 592, 593, 596, 603, 605, 606, 608, 609, 610, 612, 613, 615, 616, 617, 619, 620, 622]
def hdA9 : List Addr := [623, 624, 626, 627, 629, 630, 631, 633, 634, 636, 637, 638, 639, 640, 643, 644, 645, 648, 649, 650, 653, 654, 655, 657, 658, 660, 661, 662, 664, 665, 667, 668, 669, 671, 672, 674, 675, 676, 679, 680]
def hdA10 : List Addr := [681, 682, 684, 685, 687, 688, 689, 692, 693, 694, 695, 696, 697, 698, 699, 700, 701, 702, 703, 704, 705, 706, 707, 708, 709, 711, 712, 714, 715, 716, 718, 719, 721, 722, 723, 726, 727, 728, 731, 732]
def hdA11 : List Addr := [733, 736, 737, 738, 740, 741, 743, 744, 745, 746, 747, 748, 749, 750, 751, 752, 753, 754, 755, 756, 757, 758, 759, 760, 761, 762, 764, 765, 767, 768, 769, 771, 772, 774, 775, 776, 778, 779, 781, 782]
def hdA12 : List Addr := [783, 785, 786, 788, 789, 790, 792, 793, 795, 796, 804, 805, 806, 809, 810, 811, 813, 814, 816, 817, 818, 819, 821, 822, 824, 825, 826, 827, 829, 830, 832, 833, 834, 836, 837, 839, 840, 841, 843, 844]
def hdA13 : List Addr := [846, 847, 848, 850, 851, 853, 854, 855, 856, 858, 859, 861, 862, 863, 865, 866, 868, 869, 870, 872, 873, 875, 876, 877, 879, 880, 882, 883, 884, 886, 887, 889, 890, 891, 892, 893, 894, 895, 898, 900]
def hdA14 : List Addr := [901, 903, 904, 905, 907, 908, 910, 911, 912, 914, 915, 917, 918, 919, 921, 922, 924, 925, 926, 928, 929, 931, 932, 933, 935, 936, 938, 939, 940, 943, 944, 945, 947, 948, 950, 951, 952, 954, 955, 957]
def hdA15 : List Addr := [958, 959, 962, 963, 964, 966, 967, 969, 970, 971, 973, 974, 976, 977, 978, 980, 981, 983, 984, 985, 987, 988, 990, 991, 992, 994, 995, 997, 998, 999, 1001, 1002, 1004, 1005, 1006, 1009, 1010]
def hdA : List Addr := hdA0 ++ (hdA1 ++ (hdA2 ++ (hdA3 ++ (hdA4 ++ (hdA5 ++ (hdA6 ++ (hdA7 ++ (hdA8 ++ (hdA9 ++ (hdA10 ++ (hdA11 ++ (hdA12 ++ (hdA13 ++ (hdA14 ++ (hdA15
)))))))))))))))
theorem hdE (P : Params) : hdA = (hd_k.heap_1 P).map (·.1) := by kernel_rfl
noncomputable abbrev hdH : Hook := kHook hd_k.heap_1 hdA hdE
noncomputable def hdO (s : SharedT) : hdH.α := List.map (HandSHeadRun.getT s) hdA
theorem hd_obs (s : SharedT) : hdO s = hdH.obs s.abs := by
  show hdA.map (HandSHeadRun.getT s) = hdA.map s.abs.heap.get?
  exact congrFun (congrArg List.map (funext fun a => HandSHeadRun.getT_eq s a)) hdA
theorem hd_f (w : World) : HandSHeadRun.RunEq hdR hdQ hdH hdO 12000 hdN (w.withFollow "special-get-raises" false) := by
  intro os
  kernel_rfl
theorem hd_t (w : World) : HandSHeadRun.RunEq hdR hdQ hdH hdO 12000 hdN (w.withFollow "special-get-raises" true) := by
  intro os
  kernel_rfl
end K16
open PySem PySem.W PyProof.Rows
set_option maxRecDepth 100000 in
set_option maxHeartbeats 0 in
theorem PySem.Challenge.cw_stamprules_k16_a_desk_follows_the_run_holds : PySem.Challenge.rw_stamprules_k16_a_desk_follows_the_run.Holds := by
  w_on; o_law; refine HandSHeadRun.head_any (r := K16.hdR) (q := K16.hdQ) (H := K16.hdH) (ob := K16.hdO) (M := 12000) (loose := K16.hdN) (kwd := []) K16.hd_obs (by kernel_rfl) (fun s => by kernel_rfl) (byRow2 "special-get-raises" (P := fun w => HandSHeadRun.RunEq K16.hdR K16.hdQ K16.hdH K16.hdO 12000 K16.hdN w) K16.hd_f K16.hd_t) (by rfl) (by rfl) (by rfl) (by rfl) (by first | assumption | decide +kernel) (by decide +kernel) ⟨rfl, rfl, rfl, rfl, rfl, by decide +kernel⟩ ?hw ?hc; (case hw => w_witness2)
  k_fill
  refine K16.walk (l := PySem.Challenge.rw_stamprules_k16_a_desk_follows_the_run) rfl rfl (fun w h Y => PySem.W.kIn_of Y) ?F
  case F =>
    intro w mg fa h KX G hmg
    refine' K16.fin (K16.all_mk (w := w) KX G hmg ?z_hn ?z_ht ?gc_StampError ?kc_StampError ?gc_BadStamp ?kc_BadStamp ?gc_BadEntry ?kc_BadEntry ?gc_BadAnswer ?kc_BadAnswer ?gc_BadSetting ?kc_BadSetting ?gc_BadStep ?kc_BadStep ?gc_Finished ?kc_Finished ?gc_MustWait ?kc_MustWait ?gc_TooLate ?kc_TooLate ?gc_BrokenOff ?kc_BrokenOff ?gc_Stamp ?kc_Stamp ?gc_Item ?kc_Item ?gc_State ?kc_State ?gc_Desk ?kc_Desk ?gc_Reader ?kc_Reader ?gc_Writer ?kc_Writer ?gc_Transaction ?kc_Transaction ?gc_Book ?kc_Book ?xl_StampError ?sa_StampError ?xb_StampError ?xt_StampError ?ga_StampError ?gg_StampError ?hd_StampError ?ha_StampError ?hm_StampError ?sb_StampError_StampError ?ko_StampError_StampError ?sb_StampError_BadStamp ?ko_StampError_BadStamp ?sb_StampError_BadEntry ?ko_StampError_BadEntry ?sb_StampError_BadAnswer ?ko_StampError_BadAnswer ?sb_StampError_BadSetting ?ko_StampError_BadSetting ?sb_StampError_BadStep ?ko_StampError_BadStep ?sb_StampError_Finished ?ko_StampError_Finished ?sb_StampError_MustWait ?ko_StampError_MustWait ?sb_StampError_TooLate ?ko_StampError_TooLate ?sb_StampError_BrokenOff ?ko_StampError_BrokenOff ?kv_StampError ?xl_BadStamp ?sa_BadStamp ?xb_BadStamp ?xt_BadStamp ?ga_BadStamp ?gg_BadStamp ?hd_BadStamp ?ha_BadStamp ?hm_BadStamp ?sb_BadStamp_StampError ?ko_BadStamp_StampError ?sb_BadStamp_BadStamp ?ko_BadStamp_BadStamp ?sb_BadStamp_BadEntry ?ko_BadStamp_BadEntry ?sb_BadStamp_BadAnswer ?ko_BadStamp_BadAnswer ?sb_BadStamp_BadSetting ?ko_BadStamp_BadSetting ?sb_BadStamp_BadStep ?ko_BadStamp_BadStep ?sb_BadStamp_Finished ?ko_BadStamp_Finished ?sb_BadStamp_MustWait ?ko_BadStamp_MustWait ?sb_BadStamp_TooLate ?ko_BadStamp_TooLate ?sb_BadStamp_BrokenOff ?ko_BadStamp_BrokenOff ?kv_BadStamp ?na_BadStamp_given ?xl_BadEntry ?sa_BadEntry ?xb_BadEntry ?xt_BadEntry ?ga_BadEntry ?gg_BadEntry ?hd_BadEntry ?ha_BadEntry ?hm_BadEntry ?sb_BadEntry_StampError ?ko_BadEntry_StampError ?sb_BadEntry_BadStamp ?ko_BadEntry_BadStamp ?sb_BadEntry_BadEntry ?ko_BadEntry_BadEntry ?sb_BadEntry_BadAnswer ?ko_BadEntry_BadAnswer ?sb_BadEntry_BadSetting ?ko_BadEntry_BadSetting ?sb_BadEntry_BadStep ?ko_BadEntry_BadStep ?sb_BadEntry_Finished ?ko_BadEntry_Finished ?sb_BadEntry_MustWait ?ko_BadEntry_MustWait ?sb_BadEntry_TooLate ?ko_BadEntry_TooLate ?sb_BadEntry_BrokenOff ?ko_BadEntry_BrokenOff ?kv_BadEntry ?na_BadEntry_entry ?xl_BadAnswer ?sa_BadAnswer ?xb_BadAnswer ?xt_BadAnswer ?ga_BadAnswer ?gg_BadAnswer ?hd_BadAnswer ?ha_BadAnswer ?hm_BadAnswer ?sb_BadAnswer_StampError ?ko_BadAnswer_StampError ?sb_BadAnswer_BadStamp ?ko_BadAnswer_BadStamp ?sb_BadAnswer_BadEntry ?ko_BadAnswer_BadEntry ?sb_BadAnswer_BadAnswer ?ko_BadAnswer_BadAnswer ?sb_BadAnswer_BadSetting ?ko_BadAnswer_BadSetting ?sb_BadAnswer_BadStep ?ko_BadAnswer_BadStep ?sb_BadAnswer_Finished ?ko_BadAnswer_Finished ?sb_BadAnswer_MustWait ?ko_BadAnswer_MustWait ?sb_BadAnswer_TooLate ?ko_BadAnswer_TooLate ?sb_BadAnswer_BrokenOff ?ko_BadAnswer_BrokenOff ?kv_BadAnswer ?na_BadAnswer_answer ?na_BadAnswer_entry ?xl_BadSetting ?sa_BadSetting ?xb_BadSetting ?xt_BadSetting ?ga_BadSetting ?gg_BadSetting ?hd_BadSetting ?ha_BadSetting ?hm_BadSetting ?sb_BadSetting_StampError ?ko_BadSetting_StampError ?sb_BadSetting_BadStamp ?ko_BadSetting_BadStamp ?sb_BadSetting_BadEntry ?ko_BadSetting_BadEntry ?sb_BadSetting_BadAnswer ?ko_BadSetting_BadAnswer ?sb_BadSetting_BadSetting ?ko_BadSetting_BadSetting ?sb_BadSetting_BadStep ?ko_BadSetting_BadStep ?sb_BadSetting_Finished ?ko_BadSetting_Finished ?sb_BadSetting_MustWait ?ko_BadSetting_MustWait ?sb_BadSetting_TooLate ?ko_BadSetting_TooLate ?sb_BadSetting_BrokenOff ?ko_BadSetting_BrokenOff ?kv_BadSetting ?na_BadSetting_given ?xl_BadStep ?sa_BadStep ?xb_BadStep ?xt_BadStep ?ga_BadStep ?gg_BadStep ?hd_BadStep ?ha_BadStep ?hm_BadStep ?sb_BadStep_StampError ?ko_BadStep_StampError ?sb_BadStep_BadStamp ?ko_BadStep_BadStamp ?sb_BadStep_BadEntry ?ko_BadStep_BadEntry ?sb_BadStep_BadAnswer ?ko_BadStep_BadAnswer ?sb_BadStep_BadSetting ?ko_BadStep_BadSetting ?sb_BadStep_BadStep ?ko_BadStep_BadStep ?sb_BadStep_Finished ?ko_BadStep_Finished ?sb_BadStep_MustWait ?ko_BadStep_MustWait ?sb_BadStep_TooLate ?ko_BadStep_TooLate ?sb_BadStep_BrokenOff ?ko_BadStep_BrokenOff ?kv_BadStep ?na_BadStep_index ?xl_Finished ?sa_Finished ?xb_Finished ?xt_Finished ?ga_Finished ?gg_Finished ?hd_Finished ?ha_Finished ?hm_Finished ?sb_Finished_StampError ?ko_Finished_StampError ?sb_Finished_BadStamp ?ko_Finished_BadStamp ?sb_Finished_BadEntry ?ko_Finished_BadEntry ?sb_Finished_BadAnswer ?ko_Finished_BadAnswer ?sb_Finished_BadSetting ?ko_Finished_BadSetting ?sb_Finished_BadStep ?ko_Finished_BadStep ?sb_Finished_Finished ?ko_Finished_Finished ?sb_Finished_MustWait ?ko_Finished_MustWait ?sb_Finished_TooLate ?ko_Finished_TooLate ?sb_Finished_BrokenOff ?ko_Finished_BrokenOff ?kv_Finished ?na_Finished_stamp ?xl_MustWait ?sa_MustWait ?xb_MustWait ?xt_MustWait ?ga_MustWait ?gg_MustWait ?hd_MustWait ?ha_MustWait ?hm_MustWait ?sb_MustWait_StampError ?ko_MustWait_StampError ?sb_MustWait_BadStamp ?ko_MustWait_BadStamp ?sb_MustWait_BadEntry ?ko_MustWait_BadEntry ?sb_MustWait_BadAnswer ?ko_MustWait_BadAnswer ?sb_MustWait_BadSetting ?ko_MustWait_BadSetting ?sb_MustWait_BadStep ?ko_MustWait_BadStep ?sb_MustWait_Finished ?ko_MustWait_Finished ?sb_MustWait_MustWait ?ko_MustWait_MustWait ?sb_MustWait_TooLate ?ko_MustWait_TooLate ?sb_MustWait_BrokenOff ?ko_MustWait_BrokenOff ?kv_MustWait ?na_MustWait_holders ?na_MustWait_stamp ?xl_TooLate ?sa_TooLate ?xb_TooLate ?xt_TooLate ?ga_TooLate ?gg_TooLate ?hd_TooLate ?ha_TooLate ?hm_TooLate ?sb_TooLate_StampError ?ko_TooLate_StampError ?sb_TooLate_BadStamp ?ko_TooLate_BadStamp ?sb_TooLate_BadEntry ?ko_TooLate_BadEntry ?sb_TooLate_BadAnswer ?ko_TooLate_BadAnswer ?sb_TooLate_BadSetting ?ko_TooLate_BadSetting ?sb_TooLate_BadStep ?ko_TooLate_BadStep ?sb_TooLate_Finished ?ko_TooLate_Finished ?sb_TooLate_MustWait ?ko_TooLate_MustWait ?sb_TooLate_TooLate ?ko_TooLate_TooLate ?sb_TooLate_BrokenOff ?ko_TooLate_BrokenOff ?kv_TooLate ?na_TooLate_entry ?xl_BrokenOff ?sa_BrokenOff ?xb_BrokenOff ?xt_BrokenOff ?ga_BrokenOff ?gg_BrokenOff ?hd_BrokenOff ?ha_BrokenOff ?hm_BrokenOff ?sb_BrokenOff_StampError ?ko_BrokenOff_StampError ?sb_BrokenOff_BadStamp ?ko_BrokenOff_BadStamp ?sb_BrokenOff_BadEntry ?ko_BrokenOff_BadEntry ?sb_BrokenOff_BadAnswer ?ko_BrokenOff_BadAnswer ?sb_BrokenOff_BadSetting ?ko_BrokenOff_BadSetting ?sb_BrokenOff_BadStep ?ko_BrokenOff_BadStep ?sb_BrokenOff_Finished ?ko_BrokenOff_Finished ?sb_BrokenOff_MustWait ?ko_BrokenOff_MustWait ?sb_BrokenOff_TooLate ?ko_BrokenOff_TooLate ?sb_BrokenOff_BrokenOff ?ko_BrokenOff_BrokenOff ?kv_BrokenOff ?na_BrokenOff_stamp ?pg_Stamp ?hd_Stamp ?po_Stamp ?sa_Stamp ?mk_Stamp ?ha_Stamp ?hm_Stamp ?ko_Stamp ?na_Stamp_number ?pg_Item ?hd_Item ?po_Item ?sa_Item ?mk_Item ?ha_Item ?hm_Item ?ko_Item ?na_Item_holder ?na_Item_kept ?na_Item_reader ?na_Item_value ?pg_State ?hd_State ?po_State ?sa_State ?mk_State ?ha_State ?hm_State ?ko_State ?na_State_bonds ?na_State_over ?na_State_store ?pg_Desk ?hd_Desk ?po_Desk ?sa_Desk ?mk_Desk ?ha_Desk ?hm_Desk ?ko_Desk ?na_Desk_begun ?na_Desk_book ?na_Desk_greatest ?na_Desk_left ?na_Desk_state ?pg_Reader ?hd_Reader ?po_Reader ?sa_Reader ?mk_Reader ?ha_Reader ?hm_Reader ?ko_Reader ?pg_Writer ?hd_Writer ?po_Writer ?sa_Writer ?mk_Writer ?ha_Writer ?hm_Writer ?ko_Writer ?pg_Transaction ?hd_Transaction ?po_Transaction ?sa_Transaction ?mk_Transaction ?ha_Transaction ?hm_Transaction ?ko_Transaction ?ko_Transaction_Reader ?ko_Transaction_Writer ?na_Transaction_desk ?na_Transaction_left ?na_Transaction_number ?na_Transaction_stamp ?pg_Book ?hd_Book ?po_Book ?sa_Book ?mk_Book ?ha_Book ?hm_Book ?ko_Book ?na_Book__answers ?na_Book__ends ?na_Book__keep ?a_BadStamp_init ?l_BadStamp_init ?c_BadStamp_init ?cl_BadStamp_init ?cv_BadStamp_init ?cw_BadStamp_init ?cx_BadStamp_init ?tp_BadStamp_init ?su_BadStamp_init ?ve_BadStamp_init ?md_BadStamp_init ?ti_BadStamp_init ?z_th ?z_su ?a_BadEntry_init ?l_BadEntry_init ?c_BadEntry_init ?cl_BadEntry_init ?cv_BadEntry_init ?cw_BadEntry_init ?cx_BadEntry_init ?tp_BadEntry_init ?su_BadEntry_init ?ve_BadEntry_init ?md_BadEntry_init ?ti_BadEntry_init ?a_BadAnswer_init ?l_BadAnswer_init ?c_BadAnswer_init ?cl_BadAnswer_init ?cv_BadAnswer_init ?cw_BadAnswer_init ?cx_BadAnswer_init ?tp_BadAnswer_init ?su_BadAnswer_init ?ve_BadAnswer_init ?md_BadAnswer_init ?ti_BadAnswer_init ?a_BadSetting_init ?l_BadSetting_init ?c_BadSetting_init ?cl_BadSetting_init ?cv_BadSetting_init ?cw_BadSetting_init ?cx_BadSetting_init ?tp_BadSetting_init ?su_BadSetting_init ?ve_BadSetting_init ?md_BadSetting_init ?ti_BadSetting_init ?a_BadStep_init ?l_BadStep_init ?c_BadStep_init ?cl_BadStep_init ?cv_BadStep_init ?cw_BadStep_init ?cx_BadStep_init ?tp_BadStep_init ?su_BadStep_init ?ve_BadStep_init ?md_BadStep_init ?ti_BadStep_init ?a_Finished_init ?l_Finished_init ?c_Finished_init ?cl_Finished_init ?cv_Finished_init ?cw_Finished_init ?cx_Finished_init ?tp_Finished_init ?su_Finished_init ?ve_Finished_init ?md_Finished_init ?ti_Finished_init ?a_MustWait_init ?l_MustWait_init ?c_MustWait_init ?cl_MustWait_init ?cv_MustWait_init ?cw_MustWait_init ?cx_MustWait_init ?tp_MustWait_init ?su_MustWait_init ?ve_MustWait_init ?md_MustWait_init ?ti_MustWait_init ?a_TooLate_init ?l_TooLate_init ?c_TooLate_init ?cl_TooLate_init ?cv_TooLate_init ?cw_TooLate_init ?cx_TooLate_init ?tp_TooLate_init ?su_TooLate_init ?ve_TooLate_init ?md_TooLate_init ?ti_TooLate_init ?a_BrokenOff_init ?l_BrokenOff_init ?c_BrokenOff_init ?cl_BrokenOff_init ?cv_BrokenOff_init ?cw_BrokenOff_init ?cx_BrokenOff_init ?tp_BrokenOff_init ?su_BrokenOff_init ?ve_BrokenOff_init ?md_BrokenOff_init ?ti_BrokenOff_init ?a_Stamp_init ?l_Stamp_init ?c_Stamp_init ?k_Stamp_init ?fn_Stamp_init ?a_Stamp_lt ?l_Stamp_lt ?c_Stamp_lt ?k_Stamp_lt ?fn_Stamp_lt ?a_Item_init ?l_Item_init ?c_Item_init ?k_Item_init ?fn_Item_init ?a_State_init ?l_State_init ?c_State_init ?k_State_init ?fn_State_init ?a_Desk_init ?l_Desk_init ?c_Desk_init ?k_Desk_init ?fn_Desk_init ?a_Desk_begin ?l_Desk_begin ?c_Desk_begin ?k_Desk_begin ?kw0_Desk_begin ?fn_Desk_begin ?a_Desk_state_of ?l_Desk_state_of ?c_Desk_state_of ?k_Desk_state_of ?fn_Desk_state_of ?a_Desk_settle ?l_Desk_settle ?c_Desk_settle ?k_Desk_settle ?fn_Desk_settle ?a_Desk_take ?l_Desk_take ?c_Desk_take ?k_Desk_take ?fn_Desk_take ?a_Desk_ask ?l_Desk_ask ?c_Desk_ask ?k_Desk_ask ?fn_Desk_ask ?a_Reader_read ?l_Reader_read ?c_Reader_read ?k_Reader_read ?fn_Reader_read ?ai_Transaction_read ?a_Writer_write ?l_Writer_write ?c_Writer_write ?k_Writer_write ?fn_Writer_write ?ai_Transaction_write ?a_Transaction_init ?l_Transaction_init ?c_Transaction_init ?k_Transaction_init ?fn_Transaction_init ?a_Transaction_commit ?l_Transaction_commit ?c_Transaction_commit ?k_Transaction_commit ?fn_Transaction_commit ?a_Transaction_abort ?l_Transaction_abort ?c_Transaction_abort ?k_Transaction_abort ?fn_Transaction_abort ?a_Book_init ?l_Book_init ?c_Book_init ?k_Book_init ?kw0_Book_init ?kw1_Book_init ?T1_Book_init ?fn_Book_init ?a_Book_ends ?pg_Book_ends ?pt_Book_ends ?pc_Book_ends ?l_Book_ends ?c_Book_ends ?k_Book_ends ?a_Book_keep ?pg_Book_keep ?pt_Book_keep ?pc_Book_keep ?l_Book_keep ?c_Book_keep ?k_Book_keep ?a_Book_copy ?l_Book_copy ?c_Book_copy ?k_Book_copy ?fn_Book_copy ?a_Book_getitem ?l_Book_getitem ?c_Book_getitem ?k_Book_getitem ?fn_Book_getitem ?nd_Book ?fi_Book_getitem ?a_is_stamp ?l_is_stamp ?c_is_stamp ?k_is_stamp ?T1_is_stamp ?a_place ?l_place ?c_place ?k_place ?a_first_state ?l_first_state ?c_first_state ?k_first_state ?a_item_of ?l_item_of ?c_item_of ?k_item_of ?a_ascending ?l_ascending ?c_ascending ?k_ascending ?a_taken ?l_taken ?c_taken ?k_taken ?a_committed ?l_committed ?c_committed ?k_committed ?a_settled ?l_settled ?c_settled ?k_settled ?a_aborted ?l_aborted ?c_aborted ?k_aborted ?a_without ?l_without ?c_without ?k_without ?a_falling ?l_falling ?c_falling ?k_falling ?a_released ?l_released ?c_released ?k_released ?a_requested ?l_requested ?c_requested ?k_requested ?a_asked ?l_asked ?c_asked ?k_asked ?a_entry_met ?l_entry_met ?c_entry_met ?k_entry_met ?a_fixed_answer ?l_fixed_answer ?c_fixed_answer ?k_fixed_answer ?a_older_values ?l_older_values ?c_older_values ?k_older_values ?a_value_read ?l_value_read ?c_value_read ?k_value_read ?a_binds ?l_binds ?c_binds ?k_binds ?a_with_bond ?l_with_bond ?c_with_bond ?k_with_bond ?a_with_reader ?l_with_reader ?c_with_reader ?k_with_reader ?a_with_item ?l_with_item ?c_with_item ?k_with_item ?a_play ?l_play ?c_play ?k_play ?a_traced ?l_traced ?c_traced ?k_traced ?a_check_run ?l_check_run ?c_check_run ?k_check_run ?a_is_step ?l_is_step ?c_is_step ?k_is_step ?a_is_name ?l_is_name ?c_is_name ?k_is_name ?a_answers_at ?l_answers_at ?c_answers_at ?k_answers_at ?a_check_answer ?l_check_answer ?c_check_answer ?k_check_answer ?a_is_keep ?l_is_keep ?c_is_keep ?k_is_keep ?a_law_cell ?l_law_cell ?c_law_cell ?k_law_cell ?a_law_row ?l_law_row ?c_law_row ?k_law_row ?a_law_entries ?l_law_entries ?c_law_entries ?k_law_entries ?a_law_choices ?l_law_choices ?c_law_choices ?k_law_choices ?a_law_table ?l_law_table ?c_law_table ?k_law_table ?a_law_fits ?l_law_fits ?c_law_fits ?k_law_fits ?a_law_sound ?l_law_sound ?c_law_sound ?k_law_sound ?a_law_terms ?l_law_terms ?c_law_terms ?k_law_terms ?a_law_marks ?l_law_marks ?c_law_marks ?k_law_marks ?a_law_names ?l_law_names ?c_law_names ?k_law_names ?a_law_steps ?l_law_steps ?c_law_steps ?k_law_steps ?a_law_one ?l_law_one ?c_law_one ?k_law_one ?a_law_run ?l_law_run ?c_law_run ?k_law_run ?a_law_ints ?l_law_ints ?c_law_ints ?k_law_ints ?a_law_asked ?l_law_asked ?c_law_asked ?k_law_asked ?a_law_agrees ?l_law_agrees ?c_law_agrees ?k_law_agrees ?a_law ?l_law ?c_law ?k_law ?gv_GREATEST ?gv_SIGNS ?gv_LONGEST_NAME ?gv_ENTRIES ?tl_ENTRIES ?gv_ANSWERS ?dl_ANSWERS ?dk_ANSWERS ?ds_ANSWERS ?tl_0_ANSWERS ?tl_1_ANSWERS ?tl_2_ANSWERS ?tl_3_ANSWERS ?tl_4_ANSWERS ?tl_5_ANSWERS ?tl_6_ANSWERS ?tl_7_ANSWERS ?tl_8_ANSWERS ?tl_9_ANSWERS ?tl_10_ANSWERS ?tl_11_ANSWERS ?tl_12_ANSWERS ?tl_13_ANSWERS ?dn0_ANSWERS ?dn1_ANSWERS ?dn2_ANSWERS ?dn3_ANSWERS ?dn4_ANSWERS ?dn5_ANSWERS ?dn6_ANSWERS ?dn7_ANSWERS ?dn8_ANSWERS ?dn9_ANSWERS ?dn10_ANSWERS ?dn11_ANSWERS ?dn12_ANSWERS ?dn13_ANSWERS ?gv_MOST_KEPT ?n_NotImplemented ?n_all ?n_bool ?n_dict ?n_enumerate ?n_int ?n_isinstance ?n_len ?n_range ?n_sorted ?n_str ?n_super ?n_tuple)
    (case z_hn => k_is)
    (case z_ht => k_is)
    (case gc_StampError => k_is)
    (case kc_StampError => k_is)
    (case gc_BadStamp => k_is)
    (case kc_BadStamp => k_is)
    (case gc_BadEntry => k_is)
    (case kc_BadEntry => k_is)
    (case gc_BadAnswer => k_is)
    (case kc_BadAnswer => k_is)
    (case gc_BadSetting => k_is)
    (case kc_BadSetting => k_is)
    (case gc_BadStep => k_is)
    (case kc_BadStep => k_is)
    (case gc_Finished => k_is)
    (case kc_Finished => k_is)
    (case gc_MustWait => k_is)
    (case kc_MustWait => k_is)
    (case gc_TooLate => k_is)
    (case kc_TooLate => k_is)
    (case gc_BrokenOff => k_is)
    (case kc_BrokenOff => k_is)
    (case gc_Stamp => k_is)
    (case kc_Stamp => k_is)
    (case gc_Item => k_is)
    (case kc_Item => k_is)
    (case gc_State => k_is)
    (case kc_State => k_is)
    (case gc_Desk => k_is)
    (case kc_Desk => k_is)
    (case gc_Reader => k_is)
    (case kc_Reader => k_is)
    (case gc_Writer => k_is)
    (case kc_Writer => k_is)
    (case gc_Transaction => k_is)
    (case kc_Transaction => k_is)
    (case gc_Book => k_is)
    (case kc_Book => k_is)
    (case xl_StampError => k_is)
    (case sa_StampError => k_is)
    (case xb_StampError => k_is)
    (case xt_StampError => k_is)
    (case ga_StampError => k_is)
    (case gg_StampError => k_is)
    (case hd_StampError => k_is)
    (case ha_StampError => k_is)
    (case hm_StampError => k_is)
    (case sb_StampError_StampError => first | rfl | k_is)
    (case ko_StampError_StampError => first | rfl | k_is)
    (case sb_StampError_BadStamp => first | rfl | k_is)
    (case ko_StampError_BadStamp => first | rfl | k_is)
    (case sb_StampError_BadEntry => first | rfl | k_is)
    (case ko_StampError_BadEntry => first | rfl | k_is)
    (case sb_StampError_BadAnswer => first | rfl | k_is)
    (case ko_StampError_BadAnswer => first | rfl | k_is)
    (case sb_StampError_BadSetting => first | rfl | k_is)
    (case ko_StampError_BadSetting => first | rfl | k_is)
    (case sb_StampError_BadStep => first | rfl | k_is)
    (case ko_StampError_BadStep => first | rfl | k_is)
    (case sb_StampError_Finished => first | rfl | k_is)
    (case ko_StampError_Finished => first | rfl | k_is)
    (case sb_StampError_MustWait => first | rfl | k_is)
    (case ko_StampError_MustWait => first | rfl | k_is)
    (case sb_StampError_TooLate => first | rfl | k_is)
    (case ko_StampError_TooLate => first | rfl | k_is)
    (case sb_StampError_BrokenOff => first | rfl | k_is)
    (case ko_StampError_BrokenOff => first | rfl | k_is)
    (case kv_StampError => first | rfl | k_is)
    (case xl_BadStamp => k_is)
    (case sa_BadStamp => k_is)
    (case xb_BadStamp => k_is)
    (case xt_BadStamp => k_is)
    (case ga_BadStamp => k_is)
    (case gg_BadStamp => k_is)
    (case hd_BadStamp => k_is)
    (case ha_BadStamp => k_is)
    (case hm_BadStamp => k_is)
    (case sb_BadStamp_StampError => first | rfl | k_is)
    (case ko_BadStamp_StampError => first | rfl | k_is)
    (case sb_BadStamp_BadStamp => first | rfl | k_is)
    (case ko_BadStamp_BadStamp => first | rfl | k_is)
    (case sb_BadStamp_BadEntry => first | rfl | k_is)
    (case ko_BadStamp_BadEntry => first | rfl | k_is)
    (case sb_BadStamp_BadAnswer => first | rfl | k_is)
    (case ko_BadStamp_BadAnswer => first | rfl | k_is)
    (case sb_BadStamp_BadSetting => first | rfl | k_is)
    (case ko_BadStamp_BadSetting => first | rfl | k_is)
    (case sb_BadStamp_BadStep => first | rfl | k_is)
    (case ko_BadStamp_BadStep => first | rfl | k_is)
    (case sb_BadStamp_Finished => first | rfl | k_is)
    (case ko_BadStamp_Finished => first | rfl | k_is)
    (case sb_BadStamp_MustWait => first | rfl | k_is)
    (case ko_BadStamp_MustWait => first | rfl | k_is)
    (case sb_BadStamp_TooLate => first | rfl | k_is)
    (case ko_BadStamp_TooLate => first | rfl | k_is)
    (case sb_BadStamp_BrokenOff => first | rfl | k_is)
    (case ko_BadStamp_BrokenOff => first | rfl | k_is)
    (case kv_BadStamp => first | rfl | k_is)
    (case na_BadStamp_given => k_is)
    (case xl_BadEntry => k_is)
    (case sa_BadEntry => k_is)
    (case xb_BadEntry => k_is)
    (case xt_BadEntry => k_is)
    (case ga_BadEntry => k_is)
    (case gg_BadEntry => k_is)
    (case hd_BadEntry => k_is)
    (case ha_BadEntry => k_is)
    (case hm_BadEntry => k_is)
    (case sb_BadEntry_StampError => first | rfl | k_is)
    (case ko_BadEntry_StampError => first | rfl | k_is)
    (case sb_BadEntry_BadStamp => first | rfl | k_is)
    (case ko_BadEntry_BadStamp => first | rfl | k_is)
    (case sb_BadEntry_BadEntry => first | rfl | k_is)
    (case ko_BadEntry_BadEntry => first | rfl | k_is)
    (case sb_BadEntry_BadAnswer => first | rfl | k_is)
    (case ko_BadEntry_BadAnswer => first | rfl | k_is)
    (case sb_BadEntry_BadSetting => first | rfl | k_is)
    (case ko_BadEntry_BadSetting => first | rfl | k_is)
    (case sb_BadEntry_BadStep => first | rfl | k_is)
    (case ko_BadEntry_BadStep => first | rfl | k_is)
    (case sb_BadEntry_Finished => first | rfl | k_is)
    (case ko_BadEntry_Finished => first | rfl | k_is)
    (case sb_BadEntry_MustWait => first | rfl | k_is)
    (case ko_BadEntry_MustWait => first | rfl | k_is)
    (case sb_BadEntry_TooLate => first | rfl | k_is)
    (case ko_BadEntry_TooLate => first | rfl | k_is)
    (case sb_BadEntry_BrokenOff => first | rfl | k_is)
    (case ko_BadEntry_BrokenOff => first | rfl | k_is)
    (case kv_BadEntry => first | rfl | k_is)
    (case na_BadEntry_entry => k_is)
    (case xl_BadAnswer => k_is)
    (case sa_BadAnswer => k_is)
    (case xb_BadAnswer => k_is)
    (case xt_BadAnswer => k_is)
    (case ga_BadAnswer => k_is)
    (case gg_BadAnswer => k_is)
    (case hd_BadAnswer => k_is)
    (case ha_BadAnswer => k_is)
    (case hm_BadAnswer => k_is)
    (case sb_BadAnswer_StampError => first | rfl | k_is)
    (case ko_BadAnswer_StampError => first | rfl | k_is)
    (case sb_BadAnswer_BadStamp => first | rfl | k_is)
    (case ko_BadAnswer_BadStamp => first | rfl | k_is)
    (case sb_BadAnswer_BadEntry => first | rfl | k_is)
    (case ko_BadAnswer_BadEntry => first | rfl | k_is)
    (case sb_BadAnswer_BadAnswer => first | rfl | k_is)
    (case ko_BadAnswer_BadAnswer => first | rfl | k_is)
    (case sb_BadAnswer_BadSetting => first | rfl | k_is)
    (case ko_BadAnswer_BadSetting => first | rfl | k_is)
    (case sb_BadAnswer_BadStep => first | rfl | k_is)
    (case ko_BadAnswer_BadStep => first | rfl | k_is)
    (case sb_BadAnswer_Finished => first | rfl | k_is)
    (case ko_BadAnswer_Finished => first | rfl | k_is)
    (case sb_BadAnswer_MustWait => first | rfl | k_is)
    (case ko_BadAnswer_MustWait => first | rfl | k_is)
    (case sb_BadAnswer_TooLate => first | rfl | k_is)
    (case ko_BadAnswer_TooLate => first | rfl | k_is)
    (case sb_BadAnswer_BrokenOff => first | rfl | k_is)
    (case ko_BadAnswer_BrokenOff => first | rfl | k_is)
    (case kv_BadAnswer => first | rfl | k_is)
    (case na_BadAnswer_answer => k_is)
    (case na_BadAnswer_entry => k_is)
    (case xl_BadSetting => k_is)
    (case sa_BadSetting => k_is)
    (case xb_BadSetting => k_is)
    (case xt_BadSetting => k_is)
    (case ga_BadSetting => k_is)
    (case gg_BadSetting => k_is)
    (case hd_BadSetting => k_is)
    (case ha_BadSetting => k_is)
    (case hm_BadSetting => k_is)
    (case sb_BadSetting_StampError => first | rfl | k_is)
    (case ko_BadSetting_StampError => first | rfl | k_is)
    (case sb_BadSetting_BadStamp => first | rfl | k_is)
    (case ko_BadSetting_BadStamp => first | rfl | k_is)
    (case sb_BadSetting_BadEntry => first | rfl | k_is)
    (case ko_BadSetting_BadEntry => first | rfl | k_is)
    (case sb_BadSetting_BadAnswer => first | rfl | k_is)
    (case ko_BadSetting_BadAnswer => first | rfl | k_is)
    (case sb_BadSetting_BadSetting => first | rfl | k_is)
    (case ko_BadSetting_BadSetting => first | rfl | k_is)
    (case sb_BadSetting_BadStep => first | rfl | k_is)
    (case ko_BadSetting_BadStep => first | rfl | k_is)
    (case sb_BadSetting_Finished => first | rfl | k_is)
    (case ko_BadSetting_Finished => first | rfl | k_is)
    (case sb_BadSetting_MustWait => first | rfl | k_is)
    (case ko_BadSetting_MustWait => first | rfl | k_is)
    (case sb_BadSetting_TooLate => first | rfl | k_is)
    (case ko_BadSetting_TooLate => first | rfl | k_is)
    (case sb_BadSetting_BrokenOff => first | rfl | k_is)
    (case ko_BadSetting_BrokenOff => first | rfl | k_is)
    (case kv_BadSetting => first | rfl | k_is)
    (case na_BadSetting_given => k_is)
    (case xl_BadStep => k_is)
    (case sa_BadStep => k_is)
    (case xb_BadStep => k_is)
    (case xt_BadStep => k_is)
    (case ga_BadStep => k_is)
    (case gg_BadStep => k_is)
    (case hd_BadStep => k_is)
    (case ha_BadStep => k_is)
    (case hm_BadStep => k_is)
    (case sb_BadStep_StampError => first | rfl | k_is)
    (case ko_BadStep_StampError => first | rfl | k_is)
    (case sb_BadStep_BadStamp => first | rfl | k_is)
    (case ko_BadStep_BadStamp => first | rfl | k_is)
    (case sb_BadStep_BadEntry => first | rfl | k_is)
    (case ko_BadStep_BadEntry => first | rfl | k_is)
    (case sb_BadStep_BadAnswer => first | rfl | k_is)
    (case ko_BadStep_BadAnswer => first | rfl | k_is)
    (case sb_BadStep_BadSetting => first | rfl | k_is)
    (case ko_BadStep_BadSetting => first | rfl | k_is)
    (case sb_BadStep_BadStep => first | rfl | k_is)
    (case ko_BadStep_BadStep => first | rfl | k_is)
    (case sb_BadStep_Finished => first | rfl | k_is)
    (case ko_BadStep_Finished => first | rfl | k_is)
    (case sb_BadStep_MustWait => first | rfl | k_is)
    (case ko_BadStep_MustWait => first | rfl | k_is)
    (case sb_BadStep_TooLate => first | rfl | k_is)
    (case ko_BadStep_TooLate => first | rfl | k_is)
    (case sb_BadStep_BrokenOff => first | rfl | k_is)
    (case ko_BadStep_BrokenOff => first | rfl | k_is)
    (case kv_BadStep => first | rfl | k_is)
    (case na_BadStep_index => k_is)
    (case xl_Finished => k_is)
    (case sa_Finished => k_is)
    (case xb_Finished => k_is)
    (case xt_Finished => k_is)
    (case ga_Finished => k_is)
    (case gg_Finished => k_is)
    (case hd_Finished => k_is)
    (case ha_Finished => k_is)
    (case hm_Finished => k_is)
    (case sb_Finished_StampError => first | rfl | k_is)
    (case ko_Finished_StampError => first | rfl | k_is)
    (case sb_Finished_BadStamp => first | rfl | k_is)
    (case ko_Finished_BadStamp => first | rfl | k_is)
    (case sb_Finished_BadEntry => first | rfl | k_is)
    (case ko_Finished_BadEntry => first | rfl | k_is)
    (case sb_Finished_BadAnswer => first | rfl | k_is)
    (case ko_Finished_BadAnswer => first | rfl | k_is)
    (case sb_Finished_BadSetting => first | rfl | k_is)
    (case ko_Finished_BadSetting => first | rfl | k_is)
    (case sb_Finished_BadStep => first | rfl | k_is)
    (case ko_Finished_BadStep => first | rfl | k_is)
    (case sb_Finished_Finished => first | rfl | k_is)
    (case ko_Finished_Finished => first | rfl | k_is)
    (case sb_Finished_MustWait => first | rfl | k_is)
    (case ko_Finished_MustWait => first | rfl | k_is)
    (case sb_Finished_TooLate => first | rfl | k_is)
    (case ko_Finished_TooLate => first | rfl | k_is)
    (case sb_Finished_BrokenOff => first | rfl | k_is)
    (case ko_Finished_BrokenOff => first | rfl | k_is)
    (case kv_Finished => first | rfl | k_is)
    (case na_Finished_stamp => k_is)
    (case xl_MustWait => k_is)
    (case sa_MustWait => k_is)
    (case xb_MustWait => k_is)
    (case xt_MustWait => k_is)
    (case ga_MustWait => k_is)
    (case gg_MustWait => k_is)
    (case hd_MustWait => k_is)
    (case ha_MustWait => k_is)
    (case hm_MustWait => k_is)
    (case sb_MustWait_StampError => first | rfl | k_is)
    (case ko_MustWait_StampError => first | rfl | k_is)
    (case sb_MustWait_BadStamp => first | rfl | k_is)
    (case ko_MustWait_BadStamp => first | rfl | k_is)
    (case sb_MustWait_BadEntry => first | rfl | k_is)
    (case ko_MustWait_BadEntry => first | rfl | k_is)
    (case sb_MustWait_BadAnswer => first | rfl | k_is)
    (case ko_MustWait_BadAnswer => first | rfl | k_is)
    (case sb_MustWait_BadSetting => first | rfl | k_is)
    (case ko_MustWait_BadSetting => first | rfl | k_is)
    (case sb_MustWait_BadStep => first | rfl | k_is)
    (case ko_MustWait_BadStep => first | rfl | k_is)
    (case sb_MustWait_Finished => first | rfl | k_is)
    (case ko_MustWait_Finished => first | rfl | k_is)
    (case sb_MustWait_MustWait => first | rfl | k_is)
    (case ko_MustWait_MustWait => first | rfl | k_is)
    (case sb_MustWait_TooLate => first | rfl | k_is)
    (case ko_MustWait_TooLate => first | rfl | k_is)
    (case sb_MustWait_BrokenOff => first | rfl | k_is)
    (case ko_MustWait_BrokenOff => first | rfl | k_is)
    (case kv_MustWait => first | rfl | k_is)
    (case na_MustWait_holders => k_is)
    (case na_MustWait_stamp => k_is)
    (case xl_TooLate => k_is)
    (case sa_TooLate => k_is)
    (case xb_TooLate => k_is)
    (case xt_TooLate => k_is)
    (case ga_TooLate => k_is)
    (case gg_TooLate => k_is)
    (case hd_TooLate => k_is)
    (case ha_TooLate => k_is)
    (case hm_TooLate => k_is)
    (case sb_TooLate_StampError => first | rfl | k_is)
    (case ko_TooLate_StampError => first | rfl | k_is)
    (case sb_TooLate_BadStamp => first | rfl | k_is)
    (case ko_TooLate_BadStamp => first | rfl | k_is)
    (case sb_TooLate_BadEntry => first | rfl | k_is)
    (case ko_TooLate_BadEntry => first | rfl | k_is)
    (case sb_TooLate_BadAnswer => first | rfl | k_is)
    (case ko_TooLate_BadAnswer => first | rfl | k_is)
    (case sb_TooLate_BadSetting => first | rfl | k_is)
    (case ko_TooLate_BadSetting => first | rfl | k_is)
    (case sb_TooLate_BadStep => first | rfl | k_is)
    (case ko_TooLate_BadStep => first | rfl | k_is)
    (case sb_TooLate_Finished => first | rfl | k_is)
    (case ko_TooLate_Finished => first | rfl | k_is)
    (case sb_TooLate_MustWait => first | rfl | k_is)
    (case ko_TooLate_MustWait => first | rfl | k_is)
    (case sb_TooLate_TooLate => first | rfl | k_is)
    (case ko_TooLate_TooLate => first | rfl | k_is)
    (case sb_TooLate_BrokenOff => first | rfl | k_is)
    (case ko_TooLate_BrokenOff => first | rfl | k_is)
    (case kv_TooLate => first | rfl | k_is)
    (case na_TooLate_entry => k_is)
    (case xl_BrokenOff => k_is)
    (case sa_BrokenOff => k_is)
    (case xb_BrokenOff => k_is)
    (case xt_BrokenOff => k_is)
    (case ga_BrokenOff => k_is)
    (case gg_BrokenOff => k_is)
    (case hd_BrokenOff => k_is)
    (case ha_BrokenOff => k_is)
    (case hm_BrokenOff => k_is)
    (case sb_BrokenOff_StampError => first | rfl | k_is)
    (case ko_BrokenOff_StampError => first | rfl | k_is)
    (case sb_BrokenOff_BadStamp => first | rfl | k_is)
    (case ko_BrokenOff_BadStamp => first | rfl | k_is)
    (case sb_BrokenOff_BadEntry => first | rfl | k_is)
    (case ko_BrokenOff_BadEntry => first | rfl | k_is)
    (case sb_BrokenOff_BadAnswer => first | rfl | k_is)
    (case ko_BrokenOff_BadAnswer => first | rfl | k_is)
    (case sb_BrokenOff_BadSetting => first | rfl | k_is)
    (case ko_BrokenOff_BadSetting => first | rfl | k_is)
    (case sb_BrokenOff_BadStep => first | rfl | k_is)
    (case ko_BrokenOff_BadStep => first | rfl | k_is)
    (case sb_BrokenOff_Finished => first | rfl | k_is)
    (case ko_BrokenOff_Finished => first | rfl | k_is)
    (case sb_BrokenOff_MustWait => first | rfl | k_is)
    (case ko_BrokenOff_MustWait => first | rfl | k_is)
    (case sb_BrokenOff_TooLate => first | rfl | k_is)
    (case ko_BrokenOff_TooLate => first | rfl | k_is)
    (case sb_BrokenOff_BrokenOff => first | rfl | k_is)
    (case ko_BrokenOff_BrokenOff => first | rfl | k_is)
    (case kv_BrokenOff => first | rfl | k_is)
    (case na_BrokenOff_stamp => k_is)
    (case pg_Stamp => k_is)
    (case hd_Stamp => k_is)
    (case po_Stamp => k_is)
    (case sa_Stamp => k_is)
    (case mk_Stamp => k_is)
    (case ha_Stamp => k_is)
    (case hm_Stamp => k_is)
    (case ko_Stamp => first | rfl | k_is)
    (case na_Stamp_number => k_is)
    (case pg_Item => k_is)
    (case hd_Item => k_is)
    (case po_Item => k_is)
    (case sa_Item => k_is)
    (case mk_Item => k_is)
    (case ha_Item => k_is)
    (case hm_Item => k_is)
    (case ko_Item => first | rfl | k_is)
    (case na_Item_holder => k_is)
    (case na_Item_kept => k_is)
    (case na_Item_reader => k_is)
    (case na_Item_value => k_is)
    (case pg_State => k_is)
    (case hd_State => k_is)
    (case po_State => k_is)
    (case sa_State => k_is)
    (case mk_State => k_is)
    (case ha_State => k_is)
    (case hm_State => k_is)
    (case ko_State => first | rfl | k_is)
    (case na_State_bonds => k_is)
    (case na_State_over => k_is)
    (case na_State_store => k_is)
    (case pg_Desk => k_is)
    (case hd_Desk => k_is)
    (case po_Desk => k_is)
    (case sa_Desk => k_is)
    (case mk_Desk => k_is)
    (case ha_Desk => k_is)
    (case hm_Desk => k_is)
    (case ko_Desk => first | rfl | k_is)
    (case na_Desk_begun => k_is)
    (case na_Desk_book => k_is)
    (case na_Desk_greatest => k_is)
    (case na_Desk_left => k_is)
    (case na_Desk_state => k_is)
    (case pg_Reader => k_is)
    (case hd_Reader => k_is)
    (case po_Reader => k_is)
    (case sa_Reader => k_is)
    (case mk_Reader => k_is)
    (case ha_Reader => k_is)
    (case hm_Reader => k_is)
    (case ko_Reader => first | rfl | k_is)
    (case pg_Writer => k_is)
    (case hd_Writer => k_is)
    (case po_Writer => k_is)
    (case sa_Writer => k_is)
    (case mk_Writer => k_is)
    (case ha_Writer => k_is)
    (case hm_Writer => k_is)
    (case ko_Writer => first | rfl | k_is)
    (case pg_Transaction => k_is)
    (case hd_Transaction => k_is)
    (case po_Transaction => k_is)
    (case sa_Transaction => k_is)
    (case mk_Transaction => k_is)
    (case ha_Transaction => k_is)
    (case hm_Transaction => k_is)
    (case ko_Transaction => first | rfl | k_is)
    (case ko_Transaction_Reader => first | rfl | k_is)
    (case ko_Transaction_Writer => first | rfl | k_is)
    (case na_Transaction_desk => k_is)
    (case na_Transaction_left => k_is)
    (case na_Transaction_number => k_is)
    (case na_Transaction_stamp => k_is)
    (case pg_Book => k_is)
    (case hd_Book => k_is)
    (case po_Book => k_is)
    (case sa_Book => k_is)
    (case mk_Book => k_is)
    (case ha_Book => k_is)
    (case hm_Book => k_is)
    (case ko_Book => first | rfl | k_is)
    (case na_Book__answers => k_is)
    (case na_Book__ends => k_is)
    (case na_Book__keep => k_is)
    (case a_BadStamp_init => k_is)
    (case l_BadStamp_init => k_is)
    (case c_BadStamp_init => k_is)
    (case cl_BadStamp_init => k_is)
    (case cv_BadStamp_init => k_is)
    (case cw_BadStamp_init => rfl)
    (case cx_BadStamp_init => first | rfl | decide +kernel)
    (case tp_BadStamp_init => first | rfl | decide +kernel)
    (case su_BadStamp_init => first | rfl | k_is)
    (case ve_BadStamp_init => first | rfl | k_is)
    (case md_BadStamp_init => first | rfl | k_is)
    (case ti_BadStamp_init => k_is)
    (case z_th => k_is)
    (case z_su => k_is)
    (case a_BadEntry_init => k_is)
    (case l_BadEntry_init => k_is)
    (case c_BadEntry_init => k_is)
    (case cl_BadEntry_init => k_is)
    (case cv_BadEntry_init => k_is)
    (case cw_BadEntry_init => rfl)
    (case cx_BadEntry_init => first | rfl | decide +kernel)
    (case tp_BadEntry_init => first | rfl | decide +kernel)
    (case su_BadEntry_init => first | rfl | k_is)
    (case ve_BadEntry_init => first | rfl | k_is)
    (case md_BadEntry_init => first | rfl | k_is)
    (case ti_BadEntry_init => k_is)
    (case a_BadAnswer_init => k_is)
    (case l_BadAnswer_init => k_is)
    (case c_BadAnswer_init => k_is)
    (case cl_BadAnswer_init => k_is)
    (case cv_BadAnswer_init => k_is)
    (case cw_BadAnswer_init => rfl)
    (case cx_BadAnswer_init => first | rfl | decide +kernel)
    (case tp_BadAnswer_init => first | rfl | decide +kernel)
    (case su_BadAnswer_init => first | rfl | k_is)
    (case ve_BadAnswer_init => first | rfl | k_is)
    (case md_BadAnswer_init => first | rfl | k_is)
    (case ti_BadAnswer_init => k_is)
    (case a_BadSetting_init => k_is)
    (case l_BadSetting_init => k_is)
    (case c_BadSetting_init => k_is)
    (case cl_BadSetting_init => k_is)
    (case cv_BadSetting_init => k_is)
    (case cw_BadSetting_init => rfl)
    (case cx_BadSetting_init => first | rfl | decide +kernel)
    (case tp_BadSetting_init => first | rfl | decide +kernel)
    (case su_BadSetting_init => first | rfl | k_is)
    (case ve_BadSetting_init => first | rfl | k_is)
    (case md_BadSetting_init => first | rfl | k_is)
    (case ti_BadSetting_init => k_is)
    (case a_BadStep_init => k_is)
    (case l_BadStep_init => k_is)
    (case c_BadStep_init => k_is)
    (case cl_BadStep_init => k_is)
    (case cv_BadStep_init => k_is)
    (case cw_BadStep_init => rfl)
    (case cx_BadStep_init => first | rfl | decide +kernel)
    (case tp_BadStep_init => first | rfl | decide +kernel)
    (case su_BadStep_init => first | rfl | k_is)
    (case ve_BadStep_init => first | rfl | k_is)
    (case md_BadStep_init => first | rfl | k_is)
    (case ti_BadStep_init => k_is)
    (case a_Finished_init => k_is)
    (case l_Finished_init => k_is)
    (case c_Finished_init => k_is)
    (case cl_Finished_init => k_is)
    (case cv_Finished_init => k_is)
    (case cw_Finished_init => rfl)
    (case cx_Finished_init => first | rfl | decide +kernel)
    (case tp_Finished_init => first | rfl | decide +kernel)
    (case su_Finished_init => first | rfl | k_is)
    (case ve_Finished_init => first | rfl | k_is)
    (case md_Finished_init => first | rfl | k_is)
    (case ti_Finished_init => k_is)
    (case a_MustWait_init => k_is)
    (case l_MustWait_init => k_is)
    (case c_MustWait_init => k_is)
    (case cl_MustWait_init => k_is)
    (case cv_MustWait_init => k_is)
    (case cw_MustWait_init => rfl)
    (case cx_MustWait_init => first | rfl | decide +kernel)
    (case tp_MustWait_init => first | rfl | decide +kernel)
    (case su_MustWait_init => first | rfl | k_is)
    (case ve_MustWait_init => first | rfl | k_is)
    (case md_MustWait_init => first | rfl | k_is)
    (case ti_MustWait_init => k_is)
    (case a_TooLate_init => k_is)
    (case l_TooLate_init => k_is)
    (case c_TooLate_init => k_is)
    (case cl_TooLate_init => k_is)
    (case cv_TooLate_init => k_is)
    (case cw_TooLate_init => rfl)
    (case cx_TooLate_init => first | rfl | decide +kernel)
    (case tp_TooLate_init => first | rfl | decide +kernel)
    (case su_TooLate_init => first | rfl | k_is)
    (case ve_TooLate_init => first | rfl | k_is)
    (case md_TooLate_init => first | rfl | k_is)
    (case ti_TooLate_init => k_is)
    (case a_BrokenOff_init => k_is)
    (case l_BrokenOff_init => k_is)
    (case c_BrokenOff_init => k_is)
    (case cl_BrokenOff_init => k_is)
    (case cv_BrokenOff_init => k_is)
    (case cw_BrokenOff_init => rfl)
    (case cx_BrokenOff_init => first | rfl | decide +kernel)
    (case tp_BrokenOff_init => first | rfl | decide +kernel)
    (case su_BrokenOff_init => first | rfl | k_is)
    (case ve_BrokenOff_init => first | rfl | k_is)
    (case md_BrokenOff_init => first | rfl | k_is)
    (case ti_BrokenOff_init => k_is)
    (case a_Stamp_init => k_is)
    (case l_Stamp_init => k_is)
    (case c_Stamp_init => k_is)
    (case k_Stamp_init => k_is)
    (case fn_Stamp_init => k_is)
    (case a_Stamp_lt => k_is)
    (case l_Stamp_lt => k_is)
    (case c_Stamp_lt => k_is)
    (case k_Stamp_lt => k_is)
    (case fn_Stamp_lt => k_is)
    (case a_Item_init => k_is)
    (case l_Item_init => k_is)
    (case c_Item_init => k_is)
    (case k_Item_init => k_is)
    (case fn_Item_init => k_is)
    (case a_State_init => k_is)
    (case l_State_init => k_is)
    (case c_State_init => k_is)
    (case k_State_init => k_is)
    (case fn_State_init => k_is)
    (case a_Desk_init => k_is)
    (case l_Desk_init => k_is)
    (case c_Desk_init => k_is)
    (case k_Desk_init => k_is)
    (case fn_Desk_init => k_is)
    (case a_Desk_begin => k_is)
    (case l_Desk_begin => k_is)
    (case c_Desk_begin => k_is)
    (case k_Desk_begin => k_is)
    (case kw0_Desk_begin => k_is)
    (case fn_Desk_begin => k_is)
    (case a_Desk_state_of => k_is)
    (case l_Desk_state_of => k_is)
    (case c_Desk_state_of => k_is)
    (case k_Desk_state_of => k_is)
    (case fn_Desk_state_of => k_is)
    (case a_Desk_settle => k_is)
    (case l_Desk_settle => k_is)
    (case c_Desk_settle => k_is)
    (case k_Desk_settle => k_is)
    (case fn_Desk_settle => k_is)
    (case a_Desk_take => k_is)
    (case l_Desk_take => k_is)
    (case c_Desk_take => k_is)
    (case k_Desk_take => k_is)
    (case fn_Desk_take => k_is)
    (case a_Desk_ask => k_is)
    (case l_Desk_ask => k_is)
    (case c_Desk_ask => k_is)
    (case k_Desk_ask => k_is)
    (case fn_Desk_ask => k_is)
    (case a_Reader_read => k_is)
    (case l_Reader_read => k_is)
    (case c_Reader_read => k_is)
    (case k_Reader_read => k_is)
    (case fn_Reader_read => k_is)
    (case ai_Transaction_read => k_is)
    (case a_Writer_write => k_is)
    (case l_Writer_write => k_is)
    (case c_Writer_write => k_is)
    (case k_Writer_write => k_is)
    (case fn_Writer_write => k_is)
    (case ai_Transaction_write => k_is)
    (case a_Transaction_init => k_is)
    (case l_Transaction_init => k_is)
    (case c_Transaction_init => k_is)
    (case k_Transaction_init => k_is)
    (case fn_Transaction_init => k_is)
    (case a_Transaction_commit => k_is)
    (case l_Transaction_commit => k_is)
    (case c_Transaction_commit => k_is)
    (case k_Transaction_commit => k_is)
    (case fn_Transaction_commit => k_is)
    (case a_Transaction_abort => k_is)
    (case l_Transaction_abort => k_is)
    (case c_Transaction_abort => k_is)
    (case k_Transaction_abort => k_is)
    (case fn_Transaction_abort => k_is)
    (case a_Book_init => k_is)
    (case l_Book_init => k_is)
    (case c_Book_init => k_is)
    (case k_Book_init => k_is)
    (case kw0_Book_init => k_is)
    (case kw1_Book_init => k_is)
    (case T1_Book_init => k_is)
    (case fn_Book_init => k_is)
    (case a_Book_ends => k_is)
    (case pg_Book_ends => k_is)
    (case pt_Book_ends => k_is)
    (case pc_Book_ends => k_is)
    (case l_Book_ends => k_is)
    (case c_Book_ends => k_is)
    (case k_Book_ends => k_is)
    (case a_Book_keep => k_is)
    (case pg_Book_keep => k_is)
    (case pt_Book_keep => k_is)
    (case pc_Book_keep => k_is)
    (case l_Book_keep => k_is)
    (case c_Book_keep => k_is)
    (case k_Book_keep => k_is)
    (case a_Book_copy => k_is)
    (case l_Book_copy => k_is)
    (case c_Book_copy => k_is)
    (case k_Book_copy => k_is)
    (case fn_Book_copy => k_is)
    (case a_Book_getitem => k_is)
    (case l_Book_getitem => k_is)
    (case c_Book_getitem => k_is)
    (case k_Book_getitem => k_is)
    (case fn_Book_getitem => k_is)
    (case nd_Book => k_is)
    (case fi_Book_getitem => k_is)
    (case a_is_stamp => k_is)
    (case l_is_stamp => k_is)
    (case c_is_stamp => k_is)
    (case k_is_stamp => k_is)
    (case T1_is_stamp => k_is)
    (case a_place => k_is)
    (case l_place => k_is)
    (case c_place => k_is)
    (case k_place => k_is)
    (case a_first_state => k_is)
    (case l_first_state => k_is)
    (case c_first_state => k_is)
    (case k_first_state => k_is)
    (case a_item_of => k_is)
    (case l_item_of => k_is)
    (case c_item_of => k_is)
    (case k_item_of => k_is)
    (case a_ascending => k_is)
    (case l_ascending => k_is)
    (case c_ascending => k_is)
    (case k_ascending => k_is)
    (case a_taken => k_is)
    (case l_taken => k_is)
    (case c_taken => k_is)
    (case k_taken => k_is)
    (case a_committed => k_is)
    (case l_committed => k_is)
    (case c_committed => k_is)
    (case k_committed => k_is)
    (case a_settled => k_is)
    (case l_settled => k_is)
    (case c_settled => k_is)
    (case k_settled => k_is)
    (case a_aborted => k_is)
    (case l_aborted => k_is)
    (case c_aborted => k_is)
    (case k_aborted => k_is)
    (case a_without => k_is)
    (case l_without => k_is)
    (case c_without => k_is)
    (case k_without => k_is)
    (case a_falling => k_is)
    (case l_falling => k_is)
    (case c_falling => k_is)
    (case k_falling => k_is)
    (case a_released => k_is)
    (case l_released => k_is)
    (case c_released => k_is)
    (case k_released => k_is)
    (case a_requested => k_is)
    (case l_requested => k_is)
    (case c_requested => k_is)
    (case k_requested => k_is)
    (case a_asked => k_is)
    (case l_asked => k_is)
    (case c_asked => k_is)
    (case k_asked => k_is)
    (case a_entry_met => k_is)
    (case l_entry_met => k_is)
    (case c_entry_met => k_is)
    (case k_entry_met => k_is)
    (case a_fixed_answer => k_is)
    (case l_fixed_answer => k_is)
    (case c_fixed_answer => k_is)
    (case k_fixed_answer => k_is)
    (case a_older_values => k_is)
    (case l_older_values => k_is)
    (case c_older_values => k_is)
    (case k_older_values => k_is)
    (case a_value_read => k_is)
    (case l_value_read => k_is)
    (case c_value_read => k_is)
    (case k_value_read => k_is)
    (case a_binds => k_is)
    (case l_binds => k_is)
    (case c_binds => k_is)
    (case k_binds => k_is)
    (case a_with_bond => k_is)
    (case l_with_bond => k_is)
    (case c_with_bond => k_is)
    (case k_with_bond => k_is)
    (case a_with_reader => k_is)
    (case l_with_reader => k_is)
    (case c_with_reader => k_is)
    (case k_with_reader => k_is)
    (case a_with_item => k_is)
    (case l_with_item => k_is)
    (case c_with_item => k_is)
    (case k_with_item => k_is)
    (case a_play => k_is)
    (case l_play => k_is)
    (case c_play => k_is)
    (case k_play => k_is)
    (case a_traced => k_is)
    (case l_traced => k_is)
    (case c_traced => k_is)
    (case k_traced => k_is)
    (case a_check_run => k_is)
    (case l_check_run => k_is)
    (case c_check_run => k_is)
    (case k_check_run => k_is)
    (case a_is_step => k_is)
    (case l_is_step => k_is)
    (case c_is_step => k_is)
    (case k_is_step => k_is)
    (case a_is_name => k_is)
    (case l_is_name => k_is)
    (case c_is_name => k_is)
    (case k_is_name => k_is)
    (case a_answers_at => k_is)
    (case l_answers_at => k_is)
    (case c_answers_at => k_is)
    (case k_answers_at => k_is)
    (case a_check_answer => k_is)
    (case l_check_answer => k_is)
    (case c_check_answer => k_is)
    (case k_check_answer => k_is)
    (case a_is_keep => k_is)
    (case l_is_keep => k_is)
    (case c_is_keep => k_is)
    (case k_is_keep => k_is)
    (case a_law_cell => k_is)
    (case l_law_cell => k_is)
    (case c_law_cell => k_is)
    (case k_law_cell => k_is)
    (case a_law_row => k_is)
    (case l_law_row => k_is)
    (case c_law_row => k_is)
    (case k_law_row => k_is)
    (case a_law_entries => k_is)
    (case l_law_entries => k_is)
    (case c_law_entries => k_is)
    (case k_law_entries => k_is)
    (case a_law_choices => k_is)
    (case l_law_choices => k_is)
    (case c_law_choices => k_is)
    (case k_law_choices => k_is)
    (case a_law_table => k_is)
    (case l_law_table => k_is)
    (case c_law_table => k_is)
    (case k_law_table => k_is)
    (case a_law_fits => k_is)
    (case l_law_fits => k_is)
    (case c_law_fits => k_is)
    (case k_law_fits => k_is)
    (case a_law_sound => k_is)
    (case l_law_sound => k_is)
    (case c_law_sound => k_is)
    (case k_law_sound => k_is)
    (case a_law_terms => k_is)
    (case l_law_terms => k_is)
    (case c_law_terms => k_is)
    (case k_law_terms => k_is)
    (case a_law_marks => k_is)
    (case l_law_marks => k_is)
    (case c_law_marks => k_is)
    (case k_law_marks => k_is)
    (case a_law_names => k_is)
    (case l_law_names => k_is)
    (case c_law_names => k_is)
    (case k_law_names => k_is)
    (case a_law_steps => k_is)
    (case l_law_steps => k_is)
    (case c_law_steps => k_is)
    (case k_law_steps => k_is)
    (case a_law_one => k_is)
    (case l_law_one => k_is)
    (case c_law_one => k_is)
    (case k_law_one => k_is)
    (case a_law_run => k_is)
    (case l_law_run => k_is)
    (case c_law_run => k_is)
    (case k_law_run => k_is)
    (case a_law_ints => k_is)
    (case l_law_ints => k_is)
    (case c_law_ints => k_is)
    (case k_law_ints => k_is)
    (case a_law_asked => k_is)
    (case l_law_asked => k_is)
    (case c_law_asked => k_is)
    (case k_law_asked => k_is)
    (case a_law_agrees => k_is)
    (case l_law_agrees => k_is)
    (case c_law_agrees => k_is)
    (case k_law_agrees => k_is)
    (case a_law => k_is)
    (case l_law => k_is)
    (case c_law => k_is)
    (case k_law => k_is)
    (case gv_GREATEST => k_is)
    (case gv_SIGNS => k_is)
    (case gv_LONGEST_NAME => k_is)
    (case gv_ENTRIES => k_is)
    (case tl_ENTRIES => k_is)
    (case gv_ANSWERS => k_is)
    (case dl_ANSWERS => k_is)
    (case dk_ANSWERS => first | k_is | exact ⟨⟨_, _, rfl, rfl⟩, ⟨_, _, rfl, rfl⟩, ⟨_, _, rfl, rfl⟩, ⟨_, _, rfl, rfl⟩, ⟨_, _, rfl, rfl⟩, ⟨_, _, rfl, rfl⟩, ⟨_, _, rfl, rfl⟩, ⟨_, _, rfl, rfl⟩, ⟨_, _, rfl, rfl⟩, ⟨_, _, rfl, rfl⟩, ⟨_, _, rfl, rfl⟩, ⟨_, _, rfl, rfl⟩, ⟨_, _, rfl, rfl⟩, ⟨_, _, rfl, rfl⟩, trivial⟩)
    (case ds_ANSWERS => first | rfl | decide +kernel)
    (case tl_0_ANSWERS => k_is)
    (case tl_1_ANSWERS => k_is)
    (case tl_2_ANSWERS => k_is)
    (case tl_3_ANSWERS => k_is)
    (case tl_4_ANSWERS => k_is)
    (case tl_5_ANSWERS => k_is)
    (case tl_6_ANSWERS => k_is)
    (case tl_7_ANSWERS => k_is)
    (case tl_8_ANSWERS => k_is)
    (case tl_9_ANSWERS => k_is)
    (case tl_10_ANSWERS => k_is)
    (case tl_11_ANSWERS => k_is)
    (case tl_12_ANSWERS => k_is)
    (case tl_13_ANSWERS => k_is)
    (case dn0_ANSWERS => k_is)
    (case dn1_ANSWERS => k_is)
    (case dn2_ANSWERS => k_is)
    (case dn3_ANSWERS => k_is)
    (case dn4_ANSWERS => k_is)
    (case dn5_ANSWERS => k_is)
    (case dn6_ANSWERS => k_is)
    (case dn7_ANSWERS => k_is)
    (case dn8_ANSWERS => k_is)
    (case dn9_ANSWERS => k_is)
    (case dn10_ANSWERS => k_is)
    (case dn11_ANSWERS => k_is)
    (case dn12_ANSWERS => k_is)
    (case dn13_ANSWERS => k_is)
    (case gv_MOST_KEPT => k_is)
    (case n_NotImplemented => k_is)
    (case n_all => k_is)
    (case n_bool => k_is)
    (case n_dict => k_is)
    (case n_enumerate => k_is)
    (case n_int => k_is)
    (case n_isinstance => k_is)
    (case n_len => k_is)
    (case n_range => k_is)
    (case n_sorted => k_is)
    (case n_str => k_is)
    (case n_super => k_is)
    (case n_tuple => k_is)

