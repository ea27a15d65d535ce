import PyProof.Rows.All
import KE.KStateDown
import HandS.Head0
import HandS.Head1
import HandS.Head2
import Wide.All
import OpenK.AllK
import Wide.FinOn
import HandS.ForMost
import HandS.Exc
import HandS.TryOnly
import HandS.ExcInit
import HandS.Nested
import KE.KExcSuper
import HandS.Defaults
import HandS.IsInst
import HandS.ExcIs
import HandS.ExcField
import HandS.WordsExc
import HandS.More
import HandS.Codes
import HandS.DictComp
import HandS.Property
import HandS.MakeKw
import HandS.MakeKwOnly
import HandS.SlotsOwn
import KE.KExcIs
import HandS.Text
import HandS.Walk
import HandS.FStr
import HandS.List
import HandS.Conv
import HandS.IterVal
import HandS.Star
import KE.KOwnIter
import HandS.WordsDict
import HandS.SortInts
import HandS.TupAny
import KE.GoesEnumKw
import HandS.SortKw
import HandS.ReplaceLit
import HandS.NoneIn
import PySem.Challenge.RW_stamprules_k11_what_an_answer_does
set_option Elab.async false
set_option linter.all false
set_option maxRecDepth 100000
set_option maxHeartbeats 4000000
/-! An own exception over ValueError, through a chain of own classes, whose own __init__ begins with super().__init__(..): that __init__ keeps a promise. -/
namespace SI
open PySem PySem.Spec PyProof.Rows L2 NdefX

/-- what the written part tells of the class at C, of the class at D in which the __init__ stands, and of that function at f -/
structure SupT (prog : Program) (K : PySem.W.Frag) (mg : Str → Option Value) (D f cda cc : Addr) (F : NF) (fd : FuncData) : Prop where
  oex : OexC K D
  sup : PySem.W.ks_superIn K D D "__init__" = some (some (.builtin "ValueError.__init__"))
  vE : PySem.W.subIn K (.ref D) (.type "ValueError") = some true
  mD : PySem.W.mroIn K D (.ref D) = some true
  th : PySem.W.nsIn K cStatics "thirdparty.any" = some none
  noSuper : mg "super" = none
  cl : F.cl = [(("__class__" : Str), cc)]
  cdF : F.c = cda
  fn : ∃ (oc kV doc pm ct : Value) (od : Option Addr) (an : Option Addr) (osl : Array (Option Value)),
    fd = PySem.W.fnX F.name F.qual F.params F.body F.scope F.cl .none kV doc pm an (.ref cda) ct ∧ K.lookup f = some ⟨oc, od, .func fd, osl⟩
  code : ∃ (ccl : Value) (cdd : Option Addr) (vs : Array Value) (ccs : Array (Option Value)) (file : Str) (tf : Tok), K.lookup cda = some ⟨ccl, cdd, .fields vs, ccs⟩ ∧ vs[2]? = some (.str file tf) ∧ ((prog.main.file : Str) == file) = true
  codeR : PySem.W.codeIn K (.ref cda) F.qual = true
  cell : ∃ (ccl : Value) (cdd : Option Addr) (ccs : Array (Option Value)), K.lookup cc = some ⟨ccl, cdd, .cell (some (.ref D)), ccs⟩
  top : (prog.main.scope.names.lookup ("super" : Str)).isSome = false

theorem clsIn_of {K : PySem.W.Frag} {C : Addr} (T : OexC K C) : ∃ cd, PySem.W.clsIn K C = some cd ∧ cd.mro.contains (.type "object") = true := by
  obtain ⟨nm, q, N, bs, bm, sn, sub, ab, col, dd, k0, k1, k2, k3, k5, hC, hbm⟩ := T.cls
  refine ⟨{ name := nm, bases := bs, mro := .ref C :: bm, ns := N, qualname := q, hasDict := true, slotNames := sn, subclasses := sub, abstract := ab, collection := col, hasDel := false }, ?_, ?_⟩
  · unfold PySem.W.clsIn; rw [hC] <;> rfl
  · exact (PySem.HandSPX.refsVE_contains "object" (.ref C :: bm) hbm).trans (by decide +kernel)

section
variable {prog : Program} {w : World} {A : Around} {E : Value → Shared → Prop} {h : Heap} {g : Array GenState} {d : Drawn} {t : Nat} {os : OsState}
theorem bw_call {K : PySem.W.Frag} {u e C t0 : Addr} {rest : List Value} {Q : Value → Shared → Prop} (T : OexC K C) (X : K.In h) (he : h.get? e = some (HandSPX.excO C t0)) (hu : h.get? u = some (PySem.W.kxs_mw "ValueError.__init__" e)) (hrest : rest.length ≤ sizeLine)
    (hq : ∀ h' t1, (∀ b o, b ≠ e → h.get? b = some o → h'.get? b = some o) → h'.get? e = some (HandSPX.excO C t1) → Q .none ⟨h', g, d, t, os⟩) :
    wpAny (model prog w) A (call (.ref u) rest) Q E ⟨h, g, d, t, os⟩ := by
  obtain ⟨nm, q, N, bs, bm, sn, sub, ab, col, dd, k0, k1, k2, k3, k5, hC, hbm⟩ := T.cls
  have hC' := X _ _ hC
  refine wpAny_call (codeAny_of_tree ?_)
  show wpAny _ A.in1 (callAny (.ref u) ⟨rest, []⟩) _ _ _
  simp only [callAny]
  refine wpAny_bind (wpAny_load hu ?_)
  simp only [PySem.W.kxs_mw, show (Value.type "method-wrapper" == Value.type "method" || Value.type "method-wrapper" == Value.type "builtin_function_or_method" || Value.type "method-wrapper" == Value.type "method-wrapper") = true by decide, if_true]
  refine PySem.W.KFB.if_so (by decide) ?_
  refine wpAny_bind (PySem.W.check_bound_init F.excBase_ValueError.toExcCallFacts hC' he rfl ?_)
  refine wpAny_bind (wpAny_pure (wpAny_pure ?_))
  refine ⟨plainId_quiet F.excBase_ValueError.init.plain _, codeAny_builtin F.excBase_ValueError.initEntry ?_⟩
  exact PySem.W.exc_init_tree (cls := .ref C) (t0 := t0) (dv := none) (c2 := .none) (c3 := .none) (b4 := .bool false) he hrest (fun h' k e' t' => hq h' _ k e')
end

section
variable {X : Cx} {es : List Expr} {ta : TA} {p0 p1 p2 p3 p4 : Pos} {body : List Stmt} {pins : List (Addr × Obj)} {σ : L2.St} {H : Hp} {s : Shared} {a D f cda cc : Addr} {F : NF} {fd : FuncData} {ar : Arg} {Q : Hp → Prop}
/-- super().__init__(..) as a statement of an __init__ -/
theorem sup_stmt {pl : Sem Bool} (T : SupT X.prog X.K X.mg D f cda cc F fd) (henv : X.env = envF F f X.env.locals)
    (hks : F.scope.names.lookup ("super" : Str) = some .globalImplicit) (hkc : F.scope.names.lookup ("__class__" : Str) = some .free)
    (hp : (F.params.posonlyargs ++ F.params.args).head? = some ar) (hka : F.scope.names.lookup ar.arg = some .local) (hN : X.N[0]? = some ar.arg)
    (ha : PA X es ta) (hpl : (backTo p3 (starEach es X.env)).any (·.1) = false) (hst : ∀ (u : Value) (Q' : Args → Shared → Prop) (s' : Shared), wpAny (model X.prog X.w) X.A (spliced (backTo p3 (starEach es X.env))) (fun vs s₁ => Q' ⟨vs, []⟩ s₁) X.xe s' → wpAny (model X.prog X.w) X.A (evalArgs u true (backTo p3 (starEach es X.env)) []) Q' X.xe s')
    (hev : eval (.Call (.Attribute (.Call (.Name "super" p0) [] [] p1) "__init__" p2) es [] p3) X.env = (do
      let ov ← attributeBase (.Call (.Name "super" p0) [] [] p1) "__init__" X.env (eval (.Call (.Name "super" p0) [] [] p1) X.env)
      standAt p2.atName
      let (f, first) ← holding [ov] (getMethod ov "__init__" pl)
      callWith p3 f first (backTo p3 (starEach es X.env)) []))
    (hsw : swapsWith (.Call (.Attribute (.Call (.Name "super" p0) [] [] p1) "__init__" p2) es [] p3) none p4.line X.env = pure false)
    (I : Inv X pins σ H s) (e0 : σ[0]? = some (some (.ref a))) (ea : H a = some (exo a D none))
    (h : ta σ H fun vs H1 => vs.length ≤ 1000 ∧ H1 a = some (exo a D none) ∧ Q H1) :
    _root_.PySem.wpAt (model X.prog X.w) X.A (.func body X.env) (exec (.Expr (.Call (.Attribute (.Call (.Name "super" p0) [] [] p1) "__init__" p2) es [] p3) p4) X.env) (fun fl s' => fl = .next ∧ ∃ H', Inv X pins σ H' s' ∧ Q H') X.xe s := by
  obtain ⟨fn, _⟩ : True ∧ True := ⟨trivial, trivial⟩
  obtain ⟨oc, kV, doc, pm, ct, od, an, osl, rfl, hfn⟩ := T.fn
  obtain ⟨ccl, cdd, vs, ccs, file, tf, hcode, hvs, hfile⟩ := T.code
  obtain ⟨cl, cld, csl, hcell⟩ := T.cell
  obtain ⟨cdD, hD, hob⟩ := clsIn_of T.oex
  have KX := I.kIn
  have hki : ∀ x, X.env.kindOf x = List.lookup x F.scope.names := fun x => by rw [henv] <;> rfl
  have hkind : X.env.scope.kind = .function := I.ok.kind
  obtain ⟨oD, hD1, hD2⟩ : ∃ oD, s.heap.get? D = some oD ∧ oD.data = .cls cdD := by
    unfold PySem.W.clsIn at hD
    split at hD
    · rename_i c d cd' sl ho
      cases hD
      exact ⟨_, KX _ _ ho, rfl⟩
    · cases hD
  obtain ⟨t1, ho⟩ := exo_at I.hok ea
  have hxD : a ≠ D := by
    rintro rfl
    rw [ho] at hD1
    cases hD1
    cases hD2
  refine ks_wpAt_Expr_any (ks_wpAt_MethodCall (pl := pl) ?_ hev) (by simp [interactive, hkind]) hsw
  have hcells : X.env.cells = [(("__class__" : Str), cc)] := by rw [henv]; exact T.cl
  refine ks_wpAt_super_base (f := f) (cc := cda) (of := ⟨oc, od, .func (PySem.W.fnX F.name F.qual F.params F.body F.scope F.cl .none kV doc pm an (.ref cda) ct), osl⟩) (oc := ⟨ccl, cdd, .fields vs, ccs⟩)
    (by rw [hki]; exact hks) (by rw [hki]; exact hkc) (by decide +kernel) (by rw [henv] <;> rfl) (KX _ _ hfn) rfl hp (by rw [henv, ← T.cdF] <;> rfl) (KX _ _ hcode) rfl hvs hfile T.top ?_
  obtain ⟨mb, hb1, hb2⟩ := I.mod.blt
  refine PySem.W.ks_loadName_global hkind (by rw [hki]; exact hks) (PySem.Calls.loadGlobal_builtin (by rw [I.ok.glob]; exact I.mod.glob.keeps I.bk) T.noSuper (by rw [I.ok.blt]; exact hb1.keeps I.bk) ((hb2 _ (by decide)).trans (by decide +kernel : bootBuiltins ("super" : Str) = some (.type "super"))) ⟨rfl, ?_⟩)
  refine wpAny_loadName_free hkind (by rw [hki]; exact hkc) (by rw [hcells]; rfl) ⟨_, KX _ _ hcell, rfl⟩ ?_
  obtain ⟨m, hn, hl⟩ := I.loc
  obtain ⟨u, ru, lk⟩ := hl 0 ar.arg (.ref a) hN e0 (by rw [henv]; exact Or.inl hka)
  obtain rfl : u = Value.ref a := ru
  have hm : m ar.arg = some (.ref a) := by
    rcases lk with ⟨_, z⟩ | ⟨z, _⟩
    · exact z
    · rw [hki, hka] at z
      rcases z with z | z <;> cases z
  refine wpAny_loadName_local hkind (by rw [hki]; exact hka) hn hm ?_
  obtain ⟨hh, g, d, t, os⟩ := s
  refine ks_wpAny_isType_cls hD1 hD2 ⟨rfl, ?_⟩
  refine ks_wpAny_call_super hD1 hD2 ho rfl (fun c e => by cases e) (PySem.W.looks_mroIn KX T.mD) (fun h' hso kp => ?_)
  -- the super object stands at so; now its __init__
  have I1 : Inv X pins σ H ⟨h', g, d, t, os⟩ := I.kept (t' := t) kp
  have KX1 := I1.kIn
  have ho1 := kp _ _ ho
  have hB : PySem.W.Looks (model X.prog X.w) h' (isInstance (.ref a) (.type "ValueError")) true :=
    (PySem.W.InstAt.type (x := a) (ox := HandSPX.excO D t1) (C := D) (od := none) ⟨ho1, rfl, rfl, trivial⟩).andThen (PySem.W.looks_subIn KX1 T.vE)
  have hf := T.sup
  unfold PySem.W.ks_superIn at hf
  rw [hD] at hf
  refine PySem.W.kxs_getMethod (K := X.K) PySem.W.kxs_ValueError hso (PySem.W.looks_opaque KX1 T.th) (l₀ := cdD.mro) ?_ rfl KX1 hf hB hxD (by decide +kernel) ?_
  · exact fun A Q E s k q => wpAny_bind ((PySem.W.looks_clsIn KX1 hD) A _ E s k (wpAny_pure q))
  -- the arguments
  have kp2 : ∀ b u, h'.get? b = some u → (h'.push (PySem.W.kxs_mw "ValueError.__init__" a)).get? b = some u := fun b u e => Heap.get?_push_of_some _ e
  have I2 : Inv X pins σ H ⟨h'.push (PySem.W.kxs_mw "ValueError.__init__" a), g, d, t + 1, os⟩ := I1.kept (t' := t + 1) kp2
  have hu : (h'.push (PySem.W.kxs_mw "ValueError.__init__" a)).get? h'.objs.size = some (PySem.W.kxs_mw "ValueError.__init__" a) := Heap.get?_push_size _ rfl
  have I3 : Inv X (pins ++ [(h'.objs.size, PySem.W.kxs_mw "ValueError.__init__" a)]) σ H ⟨h'.push (PySem.W.kxs_mw "ValueError.__init__" a), g, d, t + 1, os⟩ := by
    refine I2.pins_of fun p hp => ?_
    rcases List.mem_append.mp hp with hp | hp
    · exact I2.pin p (List.mem_append_right _ hp)
    · rw [List.mem_singleton] at hp
      subst hp
      refine ⟨hu, I1.hok.fresh (Nat.le_refl _), ?_, I1.nofs (Nat.le_refl _), fun v z => by cases z⟩
      exact fun z => absurd (I1.lt) (by rw [← z]; exact Nat.lt_irrefl _)
  refine PySem.W.kxs_callWith (i := "ValueError.__init__") (x := a) hpl (hst _ _ _ (thn (ha.run p3 _ _ σ H _ I3 h) fun us s1 ⟨vs1, H1, J, r1, hz, ea1, q⟩ => ?_))
  have hu1 := (J.pin (h'.objs.size, PySem.W.kxs_mw "ValueError.__init__" a) (by simp)).1
  refine ⟨hu1, ?_⟩
  have J0 : Inv X pins σ H1 s1 := J.pins_of fun p hp => J.pin p (List.mem_append_right _ (List.mem_append_left _ hp))
  obtain ⟨t2, ho2⟩ := exo_at J.hok ea1
  obtain ⟨h1, g1, d1, tk1, os1⟩ := s1
  have hlen : us.length ≤ sizeLine := by
    rw [← Paired.length r1, sizeLine_eq]
    omega
  refine bw_call T.oex J.kIn ho2 hu1 hlen fun h2 t3 k hx => ⟨rfl, H1, ?_, q⟩
  have W := J0.write (t' := tk1) (x := a) (e := a) (o := exo a D none) (by rw [ea1]; exact True.intro) (.inl rfl) k ⟨_, hx⟩ (exo_ok hx)
  have eu : upd H1 a (exo a D none) = H1 := by
    funext b
    by_cases hb : b = a
    · rw [hb, upd_same, ea1]
    · rw [upd_ne hb]
  rw [eu] at W
  exact W
end

section
variable {CX : CXT} {P : Program} {w : World} {K : PySem.W.Frag} {mg : Str → Option Value} {base : Heap} {k : Nat} {D f cda cc : Addr} {F : NF} {fd : FuncData} {N ps : List Str} {sp : Sp} {es : List Expr} {rest : List Stmt} {p0 p1 p2 p3 p4 : Pos} {ar : Arg}
abbrev sfr : List Str := [("__class__" : Str)]
abbrev st0 (N : List Str) (vs : List V) : L2.St := startF N vs [none]
/-- THE RULE: an exception's __init__ that begins with super().__init__(..) -/
theorem ok_sup (T : SupT P K mg D f cda cc F fd) (S : NScope N ps sfr F.scope) (hbody : F.body = .Expr (.Call (.Attribute (.Call (.Name "super" p0) [] [] p1) "__init__" p2) es [] p3) p4 :: rest)
    (hks : F.scope.names.lookup ("super" : Str) = some .globalImplicit) (hp : (F.params.posonlyargs ++ F.params.args).head? = some ar) (hps : ps[0]? = some ar.arg)
    (len : ∀ vs H Q E, sp vs H Q E → vs.length = ps.length)
    (hb : ∀ (A : Around) (outer : List Env) (s : Shared) (H : Hp) (vs : List V) (Q : VK) (E : XK), Room k (A.deeper (envF F f s.heap.objs.size)) → sp vs H Q E →
      ∃ (a : Addr) (ta : TA) (t : TS) (pl : Sem Bool), PA (ncx CX P w K mg base N F f A outer s H E) es ta ∧ PSs (ncx CX P w K mg base N F f A outer s H E) rest t ∧
        (backTo p3 (starEach es (envF F f s.heap.objs.size))).any (·.1) = false ∧
        (∀ (M : Model) (B : Around) (u : Value) (Q' : Args → Shared → Prop) (E' : Value → Shared → Prop) (s' : Shared), wpAny M B (spliced (backTo p3 (starEach es (envF F f s.heap.objs.size)))) (fun vs s₁ => Q' ⟨vs, []⟩ s₁) E' s' → wpAny M B (evalArgs u true (backTo p3 (starEach es (envF F f s.heap.objs.size))) []) Q' E' s') ∧
        eval (.Call (.Attribute (.Call (.Name "super" p0) [] [] p1) "__init__" p2) es [] p3) (envF F f s.heap.objs.size) = (do
          let ov ← attributeBase (.Call (.Name "super" p0) [] [] p1) "__init__" (envF F f s.heap.objs.size) (eval (.Call (.Name "super" p0) [] [] p1) (envF F f s.heap.objs.size))
          standAt p2.atName
          let (g, first) ← holding [ov] (getMethod ov "__init__" pl)
          callWith p3 g first (backTo p3 (starEach es (envF F f s.heap.objs.size))) []) ∧
        swapsWith (.Call (.Attribute (.Call (.Name "super" p0) [] [] p1) "__init__" p2) es [] p3) none p4.line (envF F f s.heap.objs.size) = pure false ∧
        vs[0]? = some (.ref a) ∧ H a = some (exo a D none) ∧ ta (st0 N vs) H fun ws H1 => ws.length ≤ 1000 ∧ H1 a = some (exo a D none) ∧ t { nx := fun _ H' => Q .non H', rt := Q } (st0 N vs) H1) :
    FnOk P w K mg base CX (k + 1) f fd ps sp := by
  refine ⟨len, fun A outer s H args us vs Q E hr e0 hbd r hsp => ?_⟩
  have hl := len _ _ _ _ hsp
  have KX : K.In s.heap := e0.mod.kin.keeps fun b o e => (e0.bs b o e).1
  have lim : s.heap.NoLimit := e0.mod.nolimit.keeps fun b o e => (e0.bs b o e).1
  obtain ⟨oc, kV, doc, pm, ct, od, an, osl, efd, hfn⟩ := T.fn
  obtain ⟨cl, cld, csl, hcell⟩ := T.cell
  have hcc := KX _ _ hcell
  have hHc : H cc = none := (e0.bs _ _ (e0.mod.kin _ _ hcell)).2
  have C : CellsAt F.cl sfr [none] s.heap H := by
    rw [T.cl]
    refine ⟨rfl, fun y c e => ?_, fun x y c e1 e2 => ?_, fun i y hy => ?_⟩
    · have ec : c = cc := by
        simp only [List.lookup] at e
        split at e
        · exact (Option.some.inj e).symm
        · cases e
      subst ec
      exact ⟨hHc, _, _, hcc, rfl⟩
    · have key : ∀ {z : Str}, List.lookup z [(("__class__" : Str), cc)] = some c → z = ("__class__" : Str) := fun {z} e => by
        simp only [List.lookup] at e
        split at e
        · rename_i q
          exact eq_of_beq q
        · cases e
      rw [key e1, key e2]
    · cases i with
      | zero =>
        have hy' : some ("__class__" : Str) = some y := hy
        cases hy'
        exact ⟨cc, by simp [List.lookup], fun v e => by cases e⟩
      | succ i =>
        have : sfr[i + 1]? = none := rfl
        rw [this] at hy
        cases hy
  have hka : F.scope.names.lookup ar.arg = some .local := S.par _ (List.mem_of_getElem? hps)
  have hkc : F.scope.names.lookup ("__class__" : Str) = some .free := S.frk _ (by simp)
  have hN : N[0]? = some ar.arg := by
    have q : (ps ++ sfr)[0]? = some ar.arg := by
      rw [List.getElem?_append_left (List.getElem?_eq_some_iff.mp hps).1]
      exact hps
    rw [← S.pre, List.getElem?_take_of_lt (by have := (List.getElem?_eq_some_iff.mp hps).1; omega)] at q
    exact q
  subst efd
  refine PySem.ks_codeAny_call_defAt (fd := PySem.W.fnX F.name F.qual F.params F.body F.scope F.cl .none kV doc pm an (.ref cda) ct) (body := F.body) hr.depth (KX _ _ hfn) rfl lim (PySem.W.codeRec_of KX T.codeR) rfl hbd S.nocell (fun ⟨n, _⟩ hy => S.par n (List.of_mem_zip hy).1) (fun h₁ hns kp => ?_) S.co S.gen S.kind
  obtain ⟨a, ta, t, pl, hPA, hPS, hpl, hst, hev, hsw, ea, eH, hq⟩ := hb A outer s H vs Q E (hr.deeper _) hsp
  have I : Inv (ncx CX P w K mg base N F f A outer s H E) [] (startF N vs [none]) H { s with heap := h₁, toks := s.toks + (ps.zip us).length } := inv_startN S hr.hd e0 hl r C hns kp
  have eenv : PySem.callEnv (PySem.W.fnX F.name F.qual F.params F.body F.scope F.cl .none kV doc pm an (.ref cda) ct) s.heap.objs.size f = envF F f s.heap.objs.size := by
    rw [← T.cdF]
    rfl
  rw [eenv]
  have fin : ∀ {s' : Shared} {σ' : L2.St} {H' : Hp} {v : V} {u : Value}, Inv (ncx CX P w K mg base N F f A outer s H E) [] σ' H' s' → L2.RelV v u → Q v H' → CE outer P w H s Q u s' :=
    fun {s' σ' H' v u} J rv q => ⟨v, H', J.os, J.bare, J.base, J.hok, rv, q⟩
  rw [hbody]
  have e0' : (startF N vs [none])[0]? = some (some (V.ref a)) := by
    unfold startF
    have hi := (List.getElem?_eq_some_iff.mp ea).1
    rw [List.getElem?_append_left (by rw [List.length_map]; exact hi), List.getElem?_map, ea]
    rfl
  have first := sup_stmt (X := ncx CX P w K mg base N F f A outer s H E) (body := F.body) (pl := pl) T rfl hks hkc hp hka hN hPA hpl (fun u Q' s' z => hst _ _ u Q' _ s' z) hev hsw I e0' eH hq
  rw [hbody] at first
  refine PySem.ks_wpAt_execs_cons (PySem.ks_wpAt_mono first (fun fl s' hs => ?_) fun e s' hs => hs)
  obtain ⟨rfl, H1, J, q⟩ := hs
  refine PySem.wpAt_of_wpAny (wpAny_mono (hPS.run [] s' _ H1 _ J q) (fun fl s2 hs => ?_) fun e s2 hs => hs)
  cases fl with
  | ret u =>
    obtain ⟨v, σ', H', J, rv, q⟩ := hs
    exact fin J rv q
  | next =>
    obtain ⟨σ', H', J, q⟩ := hs
    exact fin (v := V.non) (u := Value.none) J rfl q
  | brk =>
    obtain ⟨_, _, _, q⟩ := hs
    exact False.elim q
  | cont =>
    obtain ⟨_, _, _, q⟩ := hs
    exact False.elim q
end
end SI

namespace K11
open PySem L2
def top (i : Nat) : Stmt := PySem.Challenge.pw_stamprules_k11_what_an_answer_does.main.body.getD i (.Pass ⟨0, 0, 0, 0⟩)
abbrev s_BadEntry_init : Stmt := inClass (top 3) 0
abbrev s_BadAnswer_init : Stmt := inClass (top 4) 0
abbrev s_BadSetting_init : Stmt := inClass (top 5) 0
abbrev s_BadStep_init : Stmt := inClass (top 6) 0
abbrev s_Item_init : Stmt := inClass (top 12) 0
abbrev s_State_init : Stmt := inClass (top 13) 0
abbrev s_Book_init : Stmt := inClass (top 68) 0
abbrev s_Book_ends : Stmt := inClass (top 68) 1
abbrev s_Book_keep : Stmt := inClass (top 68) 2
abbrev s_Book_getitem : Stmt := inClass (top 68) 4
abbrev s_is_stamp : Stmt := top 9
abbrev s_place : Stmt := top 10
abbrev s_first_state : Stmt := top 14
abbrev s_item_of : Stmt := top 15
abbrev s_ascending : Stmt := top 16
abbrev s_taken : Stmt := top 17
abbrev s_committed : Stmt := top 18
abbrev s_settled : Stmt := top 19
abbrev s_aborted : Stmt := top 20
abbrev s_without : Stmt := top 21
abbrev s_falling : Stmt := top 22
abbrev s_released : Stmt := top 23
abbrev s_requested : Stmt := top 24
abbrev s_asked : Stmt := top 25
abbrev s_entry_met : Stmt := top 26
abbrev s_fixed_answer : Stmt := top 27
abbrev s_older_values : Stmt := top 28
abbrev s_value_read : Stmt := top 29
abbrev s_binds : Stmt := top 30
abbrev s_with_bond : Stmt := top 31
abbrev s_with_reader : Stmt := top 32
abbrev s_with_item : Stmt := top 33
abbrev s_play : Stmt := top 41
abbrev s_traced : Stmt := top 43
abbrev s_check_run : Stmt := top 44
abbrev s_is_step : Stmt := top 45
abbrev s_is_name : Stmt := top 46
abbrev s_answers_at : Stmt := top 63
abbrev s_check_answer : Stmt := top 65
abbrev s_is_keep : Stmt := top 66
abbrev s_law_cell : Stmt := top 70
abbrev s_law_row : Stmt := top 71
abbrev s_law_entries : Stmt := top 72
abbrev s_law_choices : Stmt := top 73
abbrev s_law_names : Stmt := top 74
abbrev s_law_ints : Stmt := top 75
abbrev s_law_outcome : Stmt := top 76
abbrev s_law_ways : Stmt := top 77
abbrev s_law_scaled : Stmt := top 78
abbrev s_law_due : Stmt := top 79
abbrev s_law : Stmt := top 80
/-- what isinstance asks of an own class -/
structure IsI (K : PySem.W.Frag) (C : Addr) : Prop where
  ha : PySem.W.findIn K (.ref C) "__class__" = some (some (.builtin "object.__class__"))
  hm : PySem.W.mroIn K C (.type "object") = some true
structure IsG (K : PySem.W.Frag) : Prop where
  hn : PySem.W.specialIn K (.builtin "object.__class__") "__get__" = some (some (.builtin "getset_descriptor.__get__"))
  ht : PySem.W.takesIn K (.builtin "object.__class__") = some true
/-- what the top has written -/
structure Txt (w : World) (K : PySem.W.Frag) (mg : Str → Option Value) where
  isg : IsG K
  c_StampError : Addr
  g_StampError : mg "StampError" = some (.ref c_StampError)
  k_StampError : PySem.W.keepIn K (.ref c_StampError) = true
  c_BadEntry : Addr
  g_BadEntry : mg "BadEntry" = some (.ref c_BadEntry)
  k_BadEntry : PySem.W.keepIn K (.ref c_BadEntry) = true
  c_BadAnswer : Addr
  g_BadAnswer : mg "BadAnswer" = some (.ref c_BadAnswer)
  k_BadAnswer : PySem.W.keepIn K (.ref c_BadAnswer) = true
  c_BadSetting : Addr
  g_BadSetting : mg "BadSetting" = some (.ref c_BadSetting)
  k_BadSetting : PySem.W.keepIn K (.ref c_BadSetting) = true
  c_BadStep : Addr
  g_BadStep : mg "BadStep" = some (.ref c_BadStep)
  k_BadStep : PySem.W.keepIn K (.ref c_BadStep) = true
  c_Item : Addr
  g_Item : mg "Item" = some (.ref c_Item)
  k_Item : PySem.W.keepIn K (.ref c_Item) = true
  c_State : Addr
  g_State : mg "State" = some (.ref c_State)
  k_State : PySem.W.keepIn K (.ref c_State) = true
  c_Book : Addr
  g_Book : mg "Book" = some (.ref c_Book)
  k_Book : PySem.W.keepIn K (.ref c_Book) = true
  oex_StampError : OexC K c_StampError
  excc_StampError : ExcC K c_StampError
  xfc_StampError : XfC K c_StampError
  exm_StampError_StampError : PySem.W.exmOne K (.ref c_StampError) (.ref c_StampError) = some true
  kit_StampError_StampError : PySem.W.kitOne K (.ref c_StampError) (.ref c_StampError) = some true
  exm_StampError_BadEntry : PySem.W.exmOne K (.ref c_StampError) (.ref c_BadEntry) = some false
  kit_StampError_BadEntry : PySem.W.kitOne K (.ref c_StampError) (.ref c_BadEntry) = some false
  exm_StampError_BadAnswer : PySem.W.exmOne K (.ref c_StampError) (.ref c_BadAnswer) = some false
  kit_StampError_BadAnswer : PySem.W.kitOne K (.ref c_StampError) (.ref c_BadAnswer) = some false
  exm_StampError_BadSetting : PySem.W.exmOne K (.ref c_StampError) (.ref c_BadSetting) = some false
  kit_StampError_BadSetting : PySem.W.kitOne K (.ref c_StampError) (.ref c_BadSetting) = some false
  exm_StampError_BadStep : PySem.W.exmOne K (.ref c_StampError) (.ref c_BadStep) = some false
  kit_StampError_BadStep : PySem.W.kitOne K (.ref c_StampError) (.ref c_BadStep) = some false
  kit_StampError_VE : PySem.W.kitOne K (.ref c_StampError) (.type "ValueError") = some true
  oex_BadEntry : OexC K c_BadEntry
  excc_BadEntry : ExcC K c_BadEntry
  xfc_BadEntry : XfC K c_BadEntry
  exm_BadEntry_StampError : PySem.W.exmOne K (.ref c_BadEntry) (.ref c_StampError) = some true
  kit_BadEntry_StampError : PySem.W.kitOne K (.ref c_BadEntry) (.ref c_StampError) = some true
  exm_BadEntry_BadEntry : PySem.W.exmOne K (.ref c_BadEntry) (.ref c_BadEntry) = some true
  kit_BadEntry_BadEntry : PySem.W.kitOne K (.ref c_BadEntry) (.ref c_BadEntry) = some true
  exm_BadEntry_BadAnswer : PySem.W.exmOne K (.ref c_BadEntry) (.ref c_BadAnswer) = some false
  kit_BadEntry_BadAnswer : PySem.W.kitOne K (.ref c_BadEntry) (.ref c_BadAnswer) = some false
  exm_BadEntry_BadSetting : PySem.W.exmOne K (.ref c_BadEntry) (.ref c_BadSetting) = some false
  kit_BadEntry_BadSetting : PySem.W.kitOne K (.ref c_BadEntry) (.ref c_BadSetting) = some false
  exm_BadEntry_BadStep : PySem.W.exmOne K (.ref c_BadEntry) (.ref c_BadStep) = some false
  kit_BadEntry_BadStep : PySem.W.kitOne K (.ref c_BadEntry) (.ref c_BadStep) = some false
  kit_BadEntry_VE : PySem.W.kitOne K (.ref c_BadEntry) (.type "ValueError") = some true
  na_BadEntry_entry : NoAttr K c_BadEntry "entry"
  oex_BadAnswer : OexC K c_BadAnswer
  excc_BadAnswer : ExcC K c_BadAnswer
  xfc_BadAnswer : XfC K c_BadAnswer
  exm_BadAnswer_StampError : PySem.W.exmOne K (.ref c_BadAnswer) (.ref c_StampError) = some true
  kit_BadAnswer_StampError : PySem.W.kitOne K (.ref c_BadAnswer) (.ref c_StampError) = some true
  exm_BadAnswer_BadEntry : PySem.W.exmOne K (.ref c_BadAnswer) (.ref c_BadEntry) = some false
  kit_BadAnswer_BadEntry : PySem.W.kitOne K (.ref c_BadAnswer) (.ref c_BadEntry) = some false
  exm_BadAnswer_BadAnswer : PySem.W.exmOne K (.ref c_BadAnswer) (.ref c_BadAnswer) = some true
  kit_BadAnswer_BadAnswer : PySem.W.kitOne K (.ref c_BadAnswer) (.ref c_BadAnswer) = some true
  exm_BadAnswer_BadSetting : PySem.W.exmOne K (.ref c_BadAnswer) (.ref c_BadSetting) = some false
  kit_BadAnswer_BadSetting : PySem.W.kitOne K (.ref c_BadAnswer) (.ref c_BadSetting) = some false
  exm_BadAnswer_BadStep : PySem.W.exmOne K (.ref c_BadAnswer) (.ref c_BadStep) = some false
  kit_BadAnswer_BadStep : PySem.W.kitOne K (.ref c_BadAnswer) (.ref c_BadStep) = some false
  kit_BadAnswer_VE : PySem.W.kitOne K (.ref c_BadAnswer) (.type "ValueError") = some true
  na_BadAnswer_answer : NoAttr K c_BadAnswer "answer"
  na_BadAnswer_entry : NoAttr K c_BadAnswer "entry"
  oex_BadSetting : OexC K c_BadSetting
  excc_BadSetting : ExcC K c_BadSetting
  xfc_BadSetting : XfC K c_BadSetting
  exm_BadSetting_StampError : PySem.W.exmOne K (.ref c_BadSetting) (.ref c_StampError) = some true
  kit_BadSetting_StampError : PySem.W.kitOne K (.ref c_BadSetting) (.ref c_StampError) = some true
  exm_BadSetting_BadEntry : PySem.W.exmOne K (.ref c_BadSetting) (.ref c_BadEntry) = some false
  kit_BadSetting_BadEntry : PySem.W.kitOne K (.ref c_BadSetting) (.ref c_BadEntry) = some false
  exm_BadSetting_BadAnswer : PySem.W.exmOne K (.ref c_BadSetting) (.ref c_BadAnswer) = some false
  kit_BadSetting_BadAnswer : PySem.W.kitOne K (.ref c_BadSetting) (.ref c_BadAnswer) = some false
  exm_BadSetting_BadSetting : PySem.W.exmOne K (.ref c_BadSetting) (.ref c_BadSetting) = some true
  kit_BadSetting_BadSetting : PySem.W.kitOne K (.ref c_BadSetting) (.ref c_BadSetting) = some true
  exm_BadSetting_BadStep : PySem.W.exmOne K (.ref c_BadSetting) (.ref c_BadStep) = some false
  kit_BadSetting_BadStep : PySem.W.kitOne K (.ref c_BadSetting) (.ref c_BadStep) = some false
  kit_BadSetting_VE : PySem.W.kitOne K (.ref c_BadSetting) (.type "ValueError") = some true
  na_BadSetting_given : NoAttr K c_BadSetting "given"
  oex_BadStep : OexC K c_BadStep
  excc_BadStep : ExcC K c_BadStep
  xfc_BadStep : XfC K c_BadStep
  exm_BadStep_StampError : PySem.W.exmOne K (.ref c_BadStep) (.ref c_StampError) = some true
  kit_BadStep_StampError : PySem.W.kitOne K (.ref c_BadStep) (.ref c_StampError) = some true
  exm_BadStep_BadEntry : PySem.W.exmOne K (.ref c_BadStep) (.ref c_BadEntry) = some false
  kit_BadStep_BadEntry : PySem.W.kitOne K (.ref c_BadStep) (.ref c_BadEntry) = some false
  exm_BadStep_BadAnswer : PySem.W.exmOne K (.ref c_BadStep) (.ref c_BadAnswer) = some false
  kit_BadStep_BadAnswer : PySem.W.kitOne K (.ref c_BadStep) (.ref c_BadAnswer) = some false
  exm_BadStep_BadSetting : PySem.W.exmOne K (.ref c_BadStep) (.ref c_BadSetting) = some false
  kit_BadStep_BadSetting : PySem.W.kitOne K (.ref c_BadStep) (.ref c_BadSetting) = some false
  exm_BadStep_BadStep : PySem.W.exmOne K (.ref c_BadStep) (.ref c_BadStep) = some true
  kit_BadStep_BadStep : PySem.W.kitOne K (.ref c_BadStep) (.ref c_BadStep) = some true
  kit_BadStep_VE : PySem.W.kitOne K (.ref c_BadStep) (.type "ValueError") = some true
  na_BadStep_index : NoAttr K c_BadStep "index"
  cl_Item : Cls K c_Item
  isi_Item : IsI K c_Item
  kit_Item : PySem.W.kitOne K (.ref c_Item) (.ref c_Item) = some true
  na_Item_holder : NoAttr K c_Item "holder"
  na_Item_kept : NoAttr K c_Item "kept"
  na_Item_reader : NoAttr K c_Item "reader"
  na_Item_value : NoAttr K c_Item "value"
  cl_State : Cls K c_State
  isi_State : IsI K c_State
  kit_State : PySem.W.kitOne K (.ref c_State) (.ref c_State) = some true
  na_State_bonds : NoAttr K c_State "bonds"
  na_State_over : NoAttr K c_State "over"
  na_State_store : NoAttr K c_State "store"
  cl_Book : Cls K c_Book
  isi_Book : IsI K c_Book
  kit_Book : PySem.W.kitOne K (.ref c_Book) (.ref c_Book) = some true
  na_Book__answers : NoAttr K c_Book "_answers"
  na_Book__ends : NoAttr K c_Book "_ends"
  na_Book__keep : NoAttr K c_Book "_keep"
  f_BadEntry_init : Addr
  d_BadEntry_init : FuncData
  cc_BadEntry_init : Addr
  cdr_BadEntry_init : Addr
  S_BadEntry_init : SI.SupT PySem.Challenge.rw_stamprules_k11_what_an_answer_does.prog K mg c_BadEntry f_BadEntry_init cdr_BadEntry_init cc_BadEntry_init ⟨"__init__", "BadEntry.__init__", defArgs s_BadEntry_init, defBody s_BadEntry_init, defScope s_BadEntry_init, [(("__class__" : Str), cc_BadEntry_init)], cdr_BadEntry_init⟩ d_BadEntry_init
  i_BadEntry_init : PySem.W.findIn K (.ref c_BadEntry) "__init__" = some (some (.ref f_BadEntry_init))
  t_BadEntry_init : PySem.W.typeIn K (.ref f_BadEntry_init) = some (.type "function")
  f_BadAnswer_init : Addr
  d_BadAnswer_init : FuncData
  cc_BadAnswer_init : Addr
  cdr_BadAnswer_init : Addr
  S_BadAnswer_init : SI.SupT PySem.Challenge.rw_stamprules_k11_what_an_answer_does.prog K mg c_BadAnswer f_BadAnswer_init cdr_BadAnswer_init cc_BadAnswer_init ⟨"__init__", "BadAnswer.__init__", defArgs s_BadAnswer_init, defBody s_BadAnswer_init, defScope s_BadAnswer_init, [(("__class__" : Str), cc_BadAnswer_init)], cdr_BadAnswer_init⟩ d_BadAnswer_init
  i_BadAnswer_init : PySem.W.findIn K (.ref c_BadAnswer) "__init__" = some (some (.ref f_BadAnswer_init))
  t_BadAnswer_init : PySem.W.typeIn K (.ref f_BadAnswer_init) = some (.type "function")
  f_BadSetting_init : Addr
  d_BadSetting_init : FuncData
  cc_BadSetting_init : Addr
  cdr_BadSetting_init : Addr
  S_BadSetting_init : SI.SupT PySem.Challenge.rw_stamprules_k11_what_an_answer_does.prog K mg c_BadSetting f_BadSetting_init cdr_BadSetting_init cc_BadSetting_init ⟨"__init__", "BadSetting.__init__", defArgs s_BadSetting_init, defBody s_BadSetting_init, defScope s_BadSetting_init, [(("__class__" : Str), cc_BadSetting_init)], cdr_BadSetting_init⟩ d_BadSetting_init
  i_BadSetting_init : PySem.W.findIn K (.ref c_BadSetting) "__init__" = some (some (.ref f_BadSetting_init))
  t_BadSetting_init : PySem.W.typeIn K (.ref f_BadSetting_init) = some (.type "function")
  f_BadStep_init : Addr
  d_BadStep_init : FuncData
  cc_BadStep_init : Addr
  cdr_BadStep_init : Addr
  S_BadStep_init : SI.SupT PySem.Challenge.rw_stamprules_k11_what_an_answer_does.prog K mg c_BadStep f_BadStep_init cdr_BadStep_init cc_BadStep_init ⟨"__init__", "BadStep.__init__", defArgs s_BadStep_init, defBody s_BadStep_init, defScope s_BadStep_init, [(("__class__" : Str), cc_BadStep_init)], cdr_BadStep_init⟩ d_BadStep_init
  i_BadStep_init : PySem.W.findIn K (.ref c_BadStep) "__init__" = some (some (.ref f_BadStep_init))
  t_BadStep_init : PySem.W.typeIn K (.ref f_BadStep_init) = some (.type "function")
  f_Item_init : Addr
  d_Item_init : FuncData
  F_Item_init : Fun K "__init__" "Item.__init__" s_Item_init f_Item_init d_Item_init
  m_Item_init : Meth K c_Item "__init__" f_Item_init
  mk_Item : Mk K c_Item f_Item_init
  f_State_init : Addr
  d_State_init : FuncData
  F_State_init : Fun K "__init__" "State.__init__" s_State_init f_State_init d_State_init
  m_State_init : Meth K c_State "__init__" f_State_init
  mk_State : Mk K c_State f_State_init
  f_Book_init : Addr
  d_Book_init : FuncData
  F_Book_init : FunD K "__init__" "Book.__init__" (defArgs s_Book_init) (defBody s_Book_init) (defScope s_Book_init) [.non] [("ends", .str "now"), ("keep", .int 1)] f_Book_init d_Book_init
  m_Book_init : Meth K c_Book "__init__" f_Book_init
  mk_Book : Mk K c_Book f_Book_init
  f_Book_ends : Addr
  d_Book_ends : FuncData
  pr_Book_ends : Addr
  p_Book_ends : PropOf K c_Book "ends" pr_Book_ends f_Book_ends
  F_Book_ends : Fun K "ends" "Book.ends" s_Book_ends f_Book_ends d_Book_ends
  f_Book_keep : Addr
  d_Book_keep : FuncData
  pr_Book_keep : Addr
  p_Book_keep : PropOf K c_Book "keep" pr_Book_keep f_Book_keep
  F_Book_keep : Fun K "keep" "Book.keep" s_Book_keep f_Book_keep d_Book_keep
  f_Book_getitem : Addr
  d_Book_getitem : FuncData
  F_Book_getitem : Fun K "__getitem__" "Book.__getitem__" s_Book_getitem f_Book_getitem d_Book_getitem
  m_Book_getitem : Meth K c_Book "__getitem__" f_Book_getitem
  nd_Book : PySem.W.mroIn K c_Book (.type "collections.deque") = some false
  fi_Book_getitem : PySem.W.fnIn K f_Book_getitem = true
  f_is_stamp : Addr
  d_is_stamp : FuncData
  F_is_stamp : FunD K "is_stamp" "is_stamp" (defArgs s_is_stamp) (defBody s_is_stamp) (defScope s_is_stamp) [.int 0] [] f_is_stamp d_is_stamp
  g_is_stamp : mg "is_stamp" = some (.ref f_is_stamp)
  f_place : Addr
  d_place : FuncData
  F_place : Fun K "place" "place" s_place f_place d_place
  g_place : mg "place" = some (.ref f_place)
  f_first_state : Addr
  d_first_state : FuncData
  F_first_state : Fun K "first_state" "first_state" s_first_state f_first_state d_first_state
  g_first_state : mg "first_state" = some (.ref f_first_state)
  f_item_of : Addr
  d_item_of : FuncData
  F_item_of : Fun K "item_of" "item_of" s_item_of f_item_of d_item_of
  g_item_of : mg "item_of" = some (.ref f_item_of)
  f_ascending : Addr
  d_ascending : FuncData
  F_ascending : Fun K "ascending" "ascending" s_ascending f_ascending d_ascending
  g_ascending : mg "ascending" = some (.ref f_ascending)
  f_taken : Addr
  d_taken : FuncData
  F_taken : Fun K "taken" "taken" s_taken f_taken d_taken
  g_taken : mg "taken" = some (.ref f_taken)
  f_committed : Addr
  d_committed : FuncData
  F_committed : Fun K "committed" "committed" s_committed f_committed d_committed
  g_committed : mg "committed" = some (.ref f_committed)
  f_settled : Addr
  d_settled : FuncData
  F_settled : Fun K "settled" "settled" s_settled f_settled d_settled
  g_settled : mg "settled" = some (.ref f_settled)
  f_aborted : Addr
  d_aborted : FuncData
  F_aborted : Fun K "aborted" "aborted" s_aborted f_aborted d_aborted
  g_aborted : mg "aborted" = some (.ref f_aborted)
  f_without : Addr
  d_without : FuncData
  F_without : Fun K "without" "without" s_without f_without d_without
  g_without : mg "without" = some (.ref f_without)
  f_falling : Addr
  d_falling : FuncData
  F_falling : Fun K "falling" "falling" s_falling f_falling d_falling
  g_falling : mg "falling" = some (.ref f_falling)
  f_released : Addr
  d_released : FuncData
  F_released : Fun K "released" "released" s_released f_released d_released
  g_released : mg "released" = some (.ref f_released)
  f_requested : Addr
  d_requested : FuncData
  F_requested : Fun K "requested" "requested" s_requested f_requested d_requested
  g_requested : mg "requested" = some (.ref f_requested)
  f_asked : Addr
  d_asked : FuncData
  F_asked : Fun K "asked" "asked" s_asked f_asked d_asked
  g_asked : mg "asked" = some (.ref f_asked)
  f_entry_met : Addr
  d_entry_met : FuncData
  F_entry_met : Fun K "entry_met" "entry_met" s_entry_met f_entry_met d_entry_met
  g_entry_met : mg "entry_met" = some (.ref f_entry_met)
  f_fixed_answer : Addr
  d_fixed_answer : FuncData
  F_fixed_answer : Fun K "fixed_answer" "fixed_answer" s_fixed_answer f_fixed_answer d_fixed_answer
  g_fixed_answer : mg "fixed_answer" = some (.ref f_fixed_answer)
  f_older_values : Addr
  d_older_values : FuncData
  F_older_values : Fun K "older_values" "older_values" s_older_values f_older_values d_older_values
  g_older_values : mg "older_values" = some (.ref f_older_values)
  f_value_read : Addr
  d_value_read : FuncData
  F_value_read : Fun K "value_read" "value_read" s_value_read f_value_read d_value_read
  g_value_read : mg "value_read" = some (.ref f_value_read)
  f_binds : Addr
  d_binds : FuncData
  F_binds : Fun K "binds" "binds" s_binds f_binds d_binds
  g_binds : mg "binds" = some (.ref f_binds)
  f_with_bond : Addr
  d_with_bond : FuncData
  F_with_bond : Fun K "with_bond" "with_bond" s_with_bond f_with_bond d_with_bond
  g_with_bond : mg "with_bond" = some (.ref f_with_bond)
  f_with_reader : Addr
  d_with_reader : FuncData
  F_with_reader : Fun K "with_reader" "with_reader" s_with_reader f_with_reader d_with_reader
  g_with_reader : mg "with_reader" = some (.ref f_with_reader)
  f_with_item : Addr
  d_with_item : FuncData
  F_with_item : Fun K "with_item" "with_item" s_with_item f_with_item d_with_item
  g_with_item : mg "with_item" = some (.ref f_with_item)
  f_play : Addr
  d_play : FuncData
  F_play : Fun K "play" "play" s_play f_play d_play
  g_play : mg "play" = some (.ref f_play)
  f_traced : Addr
  d_traced : FuncData
  F_traced : Fun K "traced" "traced" s_traced f_traced d_traced
  g_traced : mg "traced" = some (.ref f_traced)
  f_check_run : Addr
  d_check_run : FuncData
  F_check_run : Fun K "check_run" "check_run" s_check_run f_check_run d_check_run
  g_check_run : mg "check_run" = some (.ref f_check_run)
  f_is_step : Addr
  d_is_step : FuncData
  F_is_step : Fun K "is_step" "is_step" s_is_step f_is_step d_is_step
  g_is_step : mg "is_step" = some (.ref f_is_step)
  f_is_name : Addr
  d_is_name : FuncData
  F_is_name : Fun K "is_name" "is_name" s_is_name f_is_name d_is_name
  g_is_name : mg "is_name" = some (.ref f_is_name)
  f_answers_at : Addr
  d_answers_at : FuncData
  F_answers_at : Fun K "answers_at" "answers_at" s_answers_at f_answers_at d_answers_at
  g_answers_at : mg "answers_at" = some (.ref f_answers_at)
  f_check_answer : Addr
  d_check_answer : FuncData
  F_check_answer : Fun K "check_answer" "check_answer" s_check_answer f_check_answer d_check_answer
  g_check_answer : mg "check_answer" = some (.ref f_check_answer)
  f_is_keep : Addr
  d_is_keep : FuncData
  F_is_keep : Fun K "is_keep" "is_keep" s_is_keep f_is_keep d_is_keep
  g_is_keep : mg "is_keep" = some (.ref f_is_keep)
  f_law_cell : Addr
  d_law_cell : FuncData
  F_law_cell : Fun K "_law_cell" "_law_cell" s_law_cell f_law_cell d_law_cell
  g_law_cell : mg "_law_cell" = some (.ref f_law_cell)
  f_law_row : Addr
  d_law_row : FuncData
  F_law_row : Fun K "_law_row" "_law_row" s_law_row f_law_row d_law_row
  g_law_row : mg "_law_row" = some (.ref f_law_row)
  f_law_entries : Addr
  d_law_entries : FuncData
  F_law_entries : Fun K "_law_entries" "_law_entries" s_law_entries f_law_entries d_law_entries
  g_law_entries : mg "_law_entries" = some (.ref f_law_entries)
  f_law_choices : Addr
  d_law_choices : FuncData
  F_law_choices : Fun K "_law_choices" "_law_choices" s_law_choices f_law_choices d_law_choices
  g_law_choices : mg "_law_choices" = some (.ref f_law_choices)
  f_law_names : Addr
  d_law_names : FuncData
  F_law_names : Fun K "_law_names" "_law_names" s_law_names f_law_names d_law_names
  g_law_names : mg "_law_names" = some (.ref f_law_names)
  f_law_ints : Addr
  d_law_ints : FuncData
  F_law_ints : Fun K "_law_ints" "_law_ints" s_law_ints f_law_ints d_law_ints
  g_law_ints : mg "_law_ints" = some (.ref f_law_ints)
  f_law_outcome : Addr
  d_law_outcome : FuncData
  F_law_outcome : Fun K "_law_outcome" "_law_outcome" s_law_outcome f_law_outcome d_law_outcome
  g_law_outcome : mg "_law_outcome" = some (.ref f_law_outcome)
  f_law_ways : Addr
  d_law_ways : FuncData
  F_law_ways : Fun K "_law_ways" "_law_ways" s_law_ways f_law_ways d_law_ways
  g_law_ways : mg "_law_ways" = some (.ref f_law_ways)
  f_law_scaled : Addr
  d_law_scaled : FuncData
  F_law_scaled : Fun K "_law_scaled" "_law_scaled" s_law_scaled f_law_scaled d_law_scaled
  g_law_scaled : mg "_law_scaled" = some (.ref f_law_scaled)
  f_law_due : Addr
  d_law_due : FuncData
  F_law_due : Fun K "_law_due" "_law_due" s_law_due f_law_due d_law_due
  g_law_due : mg "_law_due" = some (.ref f_law_due)
  f_law : Addr
  d_law : FuncData
  F_law : Fun K "law" "law" s_law f_law d_law
  g_law : mg "law" = some (.ref f_law)
  g_GREATEST : ∃ t, mg "GREATEST" = some (.int 1000000000000000000000000000000 t)
  g_SIGNS : ∃ t, mg "SIGNS" = some (.str "abcdefghijklmnopqrstuvwxyz0123456789" t)
  g_LONGEST_NAME : ∃ t, mg "LONGEST_NAME" = some (.int 8 t)
  o_ENTRIES : Addr
  g_ENTRIES : mg "ENTRIES" = some (.ref o_ENTRIES)
  q_ENTRIES : ∀ H, SqT K H o_ENTRIES [.str "read late", .str "read under", .str "read below", .str "read above", .str "write late", .str "write under", .str "write below", .str "write above", .str "write free passed", .str "write own passed", .str "write late passed", .str "write under passed", .str "write below passed", .str "write above passed"]
  o_ANSWERS : Addr
  g_ANSWERS : mg "ANSWERS" = some (.ref o_ANSWERS)
  o0_ANSWERS : Addr
  q0_ANSWERS : ∀ H, SqT K H o0_ANSWERS [.str "last", .str "old", .str "abort"]
  o1_ANSWERS : Addr
  q1_ANSWERS : ∀ H, SqT K H o1_ANSWERS [.str "last", .str "old", .str "open", .str "wait", .str "abort"]
  o2_ANSWERS : Addr
  q2_ANSWERS : ∀ H, SqT K H o2_ANSWERS [.str "last", .str "open", .str "wait", .str "abort"]
  o3_ANSWERS : Addr
  q3_ANSWERS : ∀ H, SqT K H o3_ANSWERS [.str "last", .str "open", .str "wait", .str "abort"]
  o4_ANSWERS : Addr
  q4_ANSWERS : ∀ H, SqT K H o4_ANSWERS [.str "skip", .str "abort"]
  o5_ANSWERS : Addr
  q5_ANSWERS : ∀ H, SqT K H o5_ANSWERS [.str "skip", .str "wait", .str "wound", .str "abort"]
  o6_ANSWERS : Addr
  q6_ANSWERS : ∀ H, SqT K H o6_ANSWERS [.str "skip", .str "wait", .str "wound", .str "abort"]
  o7_ANSWERS : Addr
  q7_ANSWERS : ∀ H, SqT K H o7_ANSWERS [.str "skip", .str "wait", .str "wound", .str "abort"]
  o8_ANSWERS : Addr
  q8_ANSWERS : ∀ H, SqT K H o8_ANSWERS [.str "put", .str "abort"]
  o9_ANSWERS : Addr
  q9_ANSWERS : ∀ H, SqT K H o9_ANSWERS [.str "put", .str "abort"]
  o10_ANSWERS : Addr
  q10_ANSWERS : ∀ H, SqT K H o10_ANSWERS [.str "skip", .str "abort"]
  o11_ANSWERS : Addr
  q11_ANSWERS : ∀ H, SqT K H o11_ANSWERS [.str "skip", .str "wait", .str "wound", .str "abort"]
  o12_ANSWERS : Addr
  q12_ANSWERS : ∀ H, SqT K H o12_ANSWERS [.str "skip", .str "wait", .str "wound", .str "abort"]
  o13_ANSWERS : Addr
  q13_ANSWERS : ∀ H, SqT K H o13_ANSWERS [.str "skip", .str "wait", .str "wound", .str "abort"]
  es_ANSWERS : Array DictEntry
  ep_ANSWERS : Nat
  kd_ANSWERS : KDict K w o_ANSWERS es_ANSWERS ep_ANSWERS
  n0_ANSWERS : PySem.W.nsIn K o_ANSWERS "read late" = some (some (.ref o0_ANSWERS))
  n1_ANSWERS : PySem.W.nsIn K o_ANSWERS "read under" = some (some (.ref o1_ANSWERS))
  n2_ANSWERS : PySem.W.nsIn K o_ANSWERS "read below" = some (some (.ref o2_ANSWERS))
  n3_ANSWERS : PySem.W.nsIn K o_ANSWERS "read above" = some (some (.ref o3_ANSWERS))
  n4_ANSWERS : PySem.W.nsIn K o_ANSWERS "write late" = some (some (.ref o4_ANSWERS))
  n5_ANSWERS : PySem.W.nsIn K o_ANSWERS "write under" = some (some (.ref o5_ANSWERS))
  n6_ANSWERS : PySem.W.nsIn K o_ANSWERS "write below" = some (some (.ref o6_ANSWERS))
  n7_ANSWERS : PySem.W.nsIn K o_ANSWERS "write above" = some (some (.ref o7_ANSWERS))
  n8_ANSWERS : PySem.W.nsIn K o_ANSWERS "write free passed" = some (some (.ref o8_ANSWERS))
  n9_ANSWERS : PySem.W.nsIn K o_ANSWERS "write own passed" = some (some (.ref o9_ANSWERS))
  n10_ANSWERS : PySem.W.nsIn K o_ANSWERS "write late passed" = some (some (.ref o10_ANSWERS))
  n11_ANSWERS : PySem.W.nsIn K o_ANSWERS "write under passed" = some (some (.ref o11_ANSWERS))
  n12_ANSWERS : PySem.W.nsIn K o_ANSWERS "write below passed" = some (some (.ref o12_ANSWERS))
  n13_ANSWERS : PySem.W.nsIn K o_ANSWERS "write above passed" = some (some (.ref o13_ANSWERS))
  g_MOST_KEPT : ∃ t, mg "MOST_KEPT" = some (.int 20 t)
  n_all : mg "all" = none
  n_bool : mg "bool" = none
  n_dict : mg "dict" = none
  n_enumerate : mg "enumerate" = none
  n_int : mg "int" = none
  n_isinstance : mg "isinstance" = none
  n_len : mg "len" = none
  n_list : mg "list" = none
  n_range : mg "range" = none
  n_sorted : mg "sorted" = none
  n_str : mg "str" = none
  n_super : mg "super" = none
  n_tuple : mg "tuple" = none
theorem sc_BadEntry_init : NdefX.NScope ["self", "entry", "__class__"] ["self", "entry"] SI.sfr (defScope s_BadEntry_init) := NdefX.nscope_by (by decide +kernel)
theorem sc_BadAnswer_init : NdefX.NScope ["self", "entry", "answer", "__class__"] ["self", "entry", "answer"] SI.sfr (defScope s_BadAnswer_init) := NdefX.nscope_by (by decide +kernel)
theorem sc_BadSetting_init : NdefX.NScope ["self", "given", "__class__"] ["self", "given"] SI.sfr (defScope s_BadSetting_init) := NdefX.nscope_by (by decide +kernel)
theorem sc_BadStep_init : NdefX.NScope ["self", "index", "__class__"] ["self", "index"] SI.sfr (defScope s_BadStep_init) := NdefX.nscope_by (by decide +kernel)
theorem sc_Item_init : FnScope ["self", "kept", "holder", "value", "reader"] ["self", "kept", "holder", "value", "reader"] (defScope s_Item_init) := ⟨rfl, rfl, rfl, by decide +kernel, rfl, by decide +kernel, by decide +kernel⟩
theorem sc_State_init : FnScope ["self", "store", "over", "bonds"] ["self", "store", "over", "bonds"] (defScope s_State_init) := ⟨rfl, rfl, rfl, by decide +kernel, rfl, by decide +kernel, by decide +kernel⟩
theorem sc_Book_init : FnScope ["self", "answers", "ends", "keep", "entry", "given", "answer"] ["self", "answers", "ends", "keep"] (defScope s_Book_init) := ⟨rfl, rfl, rfl, by decide +kernel, rfl, by decide +kernel, by decide +kernel⟩
theorem sc_Book_ends : FnScope ["self"] ["self"] (defScope s_Book_ends) := ⟨rfl, rfl, rfl, by decide +kernel, rfl, by decide +kernel, by decide +kernel⟩
theorem sc_Book_keep : FnScope ["self"] ["self"] (defScope s_Book_keep) := ⟨rfl, rfl, rfl, by decide +kernel, rfl, by decide +kernel, by decide +kernel⟩
theorem sc_Book_getitem : FnScope ["self", "entry"] ["self", "entry"] (defScope s_Book_getitem) := ⟨rfl, rfl, rfl, by decide +kernel, rfl, by decide +kernel, by decide +kernel⟩
theorem sc_is_stamp : FnScope ["number", "least"] ["number", "least"] (defScope s_is_stamp) := ⟨rfl, rfl, rfl, by decide +kernel, rfl, by decide +kernel, by decide +kernel⟩
theorem sc_place : FnScope ["asker", "last", "holder"] ["asker", "last", "holder"] (defScope s_place) := ⟨rfl, rfl, rfl, by decide +kernel, rfl, by decide +kernel, by decide +kernel⟩
theorem sc_first_state : FnScope [] [] (defScope s_first_state) := ⟨rfl, rfl, rfl, by decide +kernel, rfl, by decide +kernel, by decide +kernel⟩
theorem sc_item_of : FnScope ["state", "name"] ["state", "name"] (defScope s_item_of) := ⟨rfl, rfl, rfl, by decide +kernel, rfl, by decide +kernel, by decide +kernel⟩
theorem sc_ascending : FnScope ["stamps", "stamp"] ["stamps"] (defScope s_ascending) := ⟨rfl, rfl, rfl, by decide +kernel, rfl, by decide +kernel, by decide +kernel⟩
theorem sc_taken : FnScope ["book", "state", "step", "value", "word", "stamp"] ["book", "state", "step", "value"] (defScope s_taken) := ⟨rfl, rfl, rfl, by decide +kernel, rfl, by decide +kernel, by decide +kernel⟩
theorem sc_committed : FnScope ["book", "state", "stamp", "bound", "holder", "holders", "over", "name", "item", "store"] ["book", "state", "stamp"] (defScope s_committed) := ⟨rfl, rfl, rfl, by decide +kernel, rfl, by decide +kernel, by decide +kernel⟩
theorem sc_settled : FnScope ["item", "stamp", "keep", "kept"] ["item", "stamp", "keep"] (defScope s_settled) := ⟨rfl, rfl, rfl, by decide +kernel, rfl, by decide +kernel, by decide +kernel⟩
theorem sc_aborted : FnScope ["state", "stamp", "met", "after", "fallen"] ["state", "stamp", "met"] (defScope s_aborted) := ⟨rfl, rfl, rfl, by decide +kernel, rfl, by decide +kernel, by decide +kernel⟩
theorem sc_without : FnScope ["state", "stamp", "fallen", "over", "each", "name", "item", "store"] ["state", "stamp"] (defScope s_without) := ⟨rfl, rfl, rfl, by decide +kernel, rfl, by decide +kernel, by decide +kernel⟩
theorem sc_falling : FnScope ["state", "stamp", "fallen", "at", "other", "holders"] ["state", "stamp"] (defScope s_falling) := ⟨rfl, rfl, rfl, by decide +kernel, rfl, by decide +kernel, by decide +kernel⟩
theorem sc_released : FnScope ["item", "fallen"] ["item", "fallen"] (defScope s_released) := ⟨rfl, rfl, rfl, by decide +kernel, rfl, by decide +kernel, by decide +kernel⟩
theorem sc_requested : FnScope ["book", "state", "step", "value", "between", "first", "word", "met", "_", "fallen", "after", "more", "returned", "others"] ["book", "state", "step", "value"] (defScope s_requested) := ⟨rfl, rfl, rfl, by decide +kernel, rfl, by decide +kernel, by decide +kernel⟩
theorem sc_asked : FnScope ["book", "state", "step", "value", "kind", "stamp", "name", "item", "spot", "entry", "met", "answer", "after", "fallen", "put"] ["book", "state", "step", "value"] (defScope s_asked) := ⟨rfl, rfl, rfl, by decide +kernel, rfl, by decide +kernel, by decide +kernel⟩
theorem sc_entry_met : FnScope ["kind", "spot", "passed"] ["kind", "spot", "passed"] (defScope s_entry_met) := ⟨rfl, rfl, rfl, by decide +kernel, rfl, by decide +kernel, by decide +kernel⟩
theorem sc_fixed_answer : FnScope ["kind", "spot"] ["kind", "spot"] (defScope s_fixed_answer) := ⟨rfl, rfl, rfl, by decide +kernel, rfl, by decide +kernel, by decide +kernel⟩
theorem sc_older_values : FnScope ["item", "stamp", "writer", "value"] ["item", "stamp"] (defScope s_older_values) := ⟨rfl, rfl, rfl, by decide +kernel, rfl, by decide +kernel, by decide +kernel⟩
theorem sc_value_read : FnScope ["item", "stamp", "answer"] ["item", "stamp", "answer"] (defScope s_value_read) := ⟨rfl, rfl, rfl, by decide +kernel, rfl, by decide +kernel, by decide +kernel⟩
theorem sc_binds : FnScope ["ends", "spot", "answer"] ["ends", "spot", "answer"] (defScope s_binds) := ⟨rfl, rfl, rfl, by decide +kernel, rfl, by decide +kernel, by decide +kernel⟩
theorem sc_with_bond : FnScope ["state", "stamp", "holder", "bound", "bonds"] ["state", "stamp", "holder"] (defScope s_with_bond) := ⟨rfl, rfl, rfl, by decide +kernel, rfl, by decide +kernel, by decide +kernel⟩
theorem sc_with_reader : FnScope ["state", "name", "stamp", "item"] ["state", "name", "stamp"] (defScope s_with_reader) := ⟨rfl, rfl, rfl, by decide +kernel, rfl, by decide +kernel, by decide +kernel⟩
theorem sc_with_item : FnScope ["state", "name", "item", "store"] ["state", "name", "item"] (defScope s_with_item) := ⟨rfl, rfl, rfl, by decide +kernel, rfl, by decide +kernel, by decide +kernel⟩
theorem sc_play : FnScope ["book", "run", "_", "outcome"] ["book", "run"] (defScope s_play) := ⟨rfl, rfl, rfl, by decide +kernel, rfl, by decide +kernel, by decide +kernel⟩
theorem sc_traced : FnScope ["book", "run", "state", "trace", "number", "step", "after", "outcome"] ["book", "run"] (defScope s_traced) := ⟨rfl, rfl, rfl, by decide +kernel, rfl, by decide +kernel, by decide +kernel⟩
theorem sc_check_run : FnScope ["run", "index", "part"] ["run"] (defScope s_check_run) := ⟨rfl, rfl, rfl, by decide +kernel, rfl, by decide +kernel, by decide +kernel⟩
theorem sc_is_step : FnScope ["part"] ["part"] (defScope s_is_step) := ⟨rfl, rfl, rfl, by decide +kernel, rfl, by decide +kernel, by decide +kernel⟩
theorem sc_is_name : FnScope ["name", "sign"] ["name"] (defScope s_is_name) := ⟨rfl, rfl, rfl, by decide +kernel, rfl, by decide +kernel, by decide +kernel⟩
theorem sc_answers_at : FnScope ["entry"] ["entry"] (defScope s_answers_at) := ⟨rfl, rfl, rfl, by decide +kernel, rfl, by decide +kernel, by decide +kernel⟩
theorem sc_check_answer : FnScope ["entry", "answer"] ["entry", "answer"] (defScope s_check_answer) := ⟨rfl, rfl, rfl, by decide +kernel, rfl, by decide +kernel, by decide +kernel⟩
theorem sc_is_keep : FnScope ["keep"] ["keep"] (defScope s_is_keep) := ⟨rfl, rfl, rfl, by decide +kernel, rfl, by decide +kernel, by decide +kernel⟩
theorem sc_law_cell : FnScope ["_law_script", "_law_k"] ["_law_script", "_law_k"] (defScope s_law_cell) := ⟨rfl, rfl, rfl, by decide +kernel, rfl, by decide +kernel, by decide +kernel⟩
theorem sc_law_row : FnScope ["_law_cell_here", "_law_count", "_law_base", "_law_row_here", "_law_rest", "_law_mixed", "_law_k"] ["_law_cell_here", "_law_count", "_law_base"] (defScope s_law_row) := ⟨rfl, rfl, rfl, by decide +kernel, rfl, by decide +kernel, by decide +kernel⟩
theorem sc_law_entries : FnScope ["_law_names_here"] [] (defScope s_law_entries) := ⟨rfl, rfl, rfl, by decide +kernel, rfl, by decide +kernel, by decide +kernel⟩
theorem sc_law_choices : FnScope ["_law_name"] ["_law_name"] (defScope s_law_choices) := ⟨rfl, rfl, rfl, by decide +kernel, rfl, by decide +kernel, by decide +kernel⟩
theorem sc_law_names : FnScope ["_law_cell_here", "_law_signs", "_law_draws", "_law_k", "_law_first"] ["_law_cell_here"] (defScope s_law_names) := ⟨rfl, rfl, rfl, by decide +kernel, rfl, by decide +kernel, by decide +kernel⟩
theorem sc_law_ints : FnScope ["_law_actual", "_law_due_here", "_law_k"] ["_law_actual", "_law_due_here"] (defScope s_law_ints) := ⟨rfl, rfl, rfl, by decide +kernel, rfl, by decide +kernel, by decide +kernel⟩
theorem sc_law_outcome : FnScope ["_law_actual", "_law_due_here"] ["_law_actual", "_law_due_here"] (defScope s_law_outcome) := ⟨rfl, rfl, rfl, by decide +kernel, rfl, by decide +kernel, by decide +kernel⟩
theorem sc_law_ways : FnScope ["_law_ways_here"] [] (defScope s_law_ways) := ⟨rfl, rfl, rfl, by decide +kernel, rfl, by decide +kernel, by decide +kernel⟩
theorem sc_law_scaled : FnScope ["_law_text", "_law_scale", "_law_name", "_law_run", "_law_word", "_law_mark"] ["_law_text", "_law_scale", "_law_name"] (defScope s_law_scaled) := ⟨rfl, rfl, rfl, by decide +kernel, rfl, by decide +kernel, by decide +kernel⟩
theorem sc_law_due : FnScope ["_law_at", "_law_table", "_law_kept", "_law_scale", "_law_name", "_law_asker", "_law_holder", "_law_last", "_law_value", "_law_answer", "_law_after"] ["_law_at", "_law_table", "_law_kept", "_law_scale"] (defScope s_law_due) := ⟨rfl, rfl, rfl, by decide +kernel, rfl, by decide +kernel, by decide +kernel⟩
theorem sc_law : FnScope ["_law_script", "_law_names_here", "_law_scale", "_law_item", "_law_rule", "_law_kept", "_law_draws", "_law_at", "_law_name", "_law_table", "_law_answer", "_law_run", "_law_told", "_law_k"] ["_law_script"] (defScope s_law) := ⟨rfl, rfl, rfl, by decide +kernel, rfl, by decide +kernel, by decide +kernel⟩
section
variable {w : World} {K : PySem.W.Frag} {mg : Str → Option Value} (T : Txt w K mg)
include T
theorem b_BadEntry_init : Binds K T.d_BadEntry_init ["self", "entry"] [] := by
  obtain ⟨_, _, _, _, _, _, _, _, e, _⟩ := T.S_BadEntry_init.fn
  rw [e]
  exact .all fun us hl => match us, hl with | [_, _], _ => rfl
theorem b_BadAnswer_init : Binds K T.d_BadAnswer_init ["self", "entry", "answer"] [] := by
  obtain ⟨_, _, _, _, _, _, _, _, e, _⟩ := T.S_BadAnswer_init.fn
  rw [e]
  exact .all fun us hl => match us, hl with | [_, _, _], _ => rfl
theorem b_BadSetting_init : Binds K T.d_BadSetting_init ["self", "given"] [] := by
  obtain ⟨_, _, _, _, _, _, _, _, e, _⟩ := T.S_BadSetting_init.fn
  rw [e]
  exact .all fun us hl => match us, hl with | [_, _], _ => rfl
theorem b_BadStep_init : Binds K T.d_BadStep_init ["self", "index"] [] := by
  obtain ⟨_, _, _, _, _, _, _, _, e, _⟩ := T.S_BadStep_init.fn
  rw [e]
  exact .all fun us hl => match us, hl with | [_, _], _ => rfl
theorem b_Item_init : Binds K T.d_Item_init ["self", "kept", "holder", "value", "reader"] [] := T.F_Item_init.binds (ps := ["self", "kept", "holder", "value", "reader"]) fun _ _ _ _ _ _ us hl => match us, hl with | [_, _, _, _, _], _ => rfl
theorem b_State_init : Binds K T.d_State_init ["self", "store", "over", "bonds"] [] := T.F_State_init.binds (ps := ["self", "store", "over", "bonds"]) fun _ _ _ _ _ _ us hl => match us, hl with | [_, _, _, _], _ => rfl
theorem b_Book_ends : Binds K T.d_Book_ends ["self"] [] := T.F_Book_ends.binds (ps := ["self"]) fun _ _ _ _ _ _ us hl => match us, hl with | [_], _ => rfl
theorem b_Book_keep : Binds K T.d_Book_keep ["self"] [] := T.F_Book_keep.binds (ps := ["self"]) fun _ _ _ _ _ _ us hl => match us, hl with | [_], _ => rfl
theorem b_Book_getitem : Binds K T.d_Book_getitem ["self", "entry"] [] := T.F_Book_getitem.binds (ps := ["self", "entry"]) fun _ _ _ _ _ _ us hl => match us, hl with | [_, _], _ => rfl
theorem b0_is_stamp : ∃ ds, Vals [] ds ∧ Binds K T.d_is_stamp ["number", "least"] ds := T.F_is_stamp.binds1 2 1 (by simp) rfl fun _ _ _ _ _ _ _ us its hu hi => match us, hu, its, hi with | [_, _], _, [_], _ => ⟨_, rfl, rfl⟩
theorem b1_is_stamp : ∃ ds, Vals [.int 0] ds ∧ Binds K T.d_is_stamp ["number", "least"] ds := T.F_is_stamp.binds1 1 0 (by simp) rfl fun _ _ _ _ _ _ _ us its hu hi => match us, hu, its, hi with | [_], _, [_], _ => ⟨_, rfl, rfl⟩
theorem b_place : Binds K T.d_place ["asker", "last", "holder"] [] := T.F_place.binds (ps := ["asker", "last", "holder"]) fun _ _ _ _ _ _ us hl => match us, hl with | [_, _, _], _ => rfl
theorem b_first_state : Binds K T.d_first_state [] [] := T.F_first_state.binds (ps := []) fun _ _ _ _ _ _ us hl => match us, hl with | [], _ => rfl
theorem b_item_of : Binds K T.d_item_of ["state", "name"] [] := T.F_item_of.binds (ps := ["state", "name"]) fun _ _ _ _ _ _ us hl => match us, hl with | [_, _], _ => rfl
theorem b_ascending : Binds K T.d_ascending ["stamps"] [] := T.F_ascending.binds (ps := ["stamps"]) fun _ _ _ _ _ _ us hl => match us, hl with | [_], _ => rfl
theorem b_taken : Binds K T.d_taken ["book", "state", "step", "value"] [] := T.F_taken.binds (ps := ["book", "state", "step", "value"]) fun _ _ _ _ _ _ us hl => match us, hl with | [_, _, _, _], _ => rfl
theorem b_committed : Binds K T.d_committed ["book", "state", "stamp"] [] := T.F_committed.binds (ps := ["book", "state", "stamp"]) fun _ _ _ _ _ _ us hl => match us, hl with | [_, _, _], _ => rfl
theorem b_settled : Binds K T.d_settled ["item", "stamp", "keep"] [] := T.F_settled.binds (ps := ["item", "stamp", "keep"]) fun _ _ _ _ _ _ us hl => match us, hl with | [_, _, _], _ => rfl
theorem b_aborted : Binds K T.d_aborted ["state", "stamp", "met"] [] := T.F_aborted.binds (ps := ["state", "stamp", "met"]) fun _ _ _ _ _ _ us hl => match us, hl with | [_, _, _], _ => rfl
theorem b_without : Binds K T.d_without ["state", "stamp"] [] := T.F_without.binds (ps := ["state", "stamp"]) fun _ _ _ _ _ _ us hl => match us, hl with | [_, _], _ => rfl
theorem b_falling : Binds K T.d_falling ["state", "stamp"] [] := T.F_falling.binds (ps := ["state", "stamp"]) fun _ _ _ _ _ _ us hl => match us, hl with | [_, _], _ => rfl
theorem b_released : Binds K T.d_released ["item", "fallen"] [] := T.F_released.binds (ps := ["item", "fallen"]) fun _ _ _ _ _ _ us hl => match us, hl with | [_, _], _ => rfl
theorem b_requested : Binds K T.d_requested ["book", "state", "step", "value"] [] := T.F_requested.binds (ps := ["book", "state", "step", "value"]) fun _ _ _ _ _ _ us hl => match us, hl with | [_, _, _, _], _ => rfl
theorem b_asked : Binds K T.d_asked ["book", "state", "step", "value"] [] := T.F_asked.binds (ps := ["book", "state", "step", "value"]) fun _ _ _ _ _ _ us hl => match us, hl with | [_, _, _, _], _ => rfl
theorem b_entry_met : Binds K T.d_entry_met ["kind", "spot", "passed"] [] := T.F_entry_met.binds (ps := ["kind", "spot", "passed"]) fun _ _ _ _ _ _ us hl => match us, hl with | [_, _, _], _ => rfl
theorem b_fixed_answer : Binds K T.d_fixed_answer ["kind", "spot"] [] := T.F_fixed_answer.binds (ps := ["kind", "spot"]) fun _ _ _ _ _ _ us hl => match us, hl with | [_, _], _ => rfl
theorem b_older_values : Binds K T.d_older_values ["item", "stamp"] [] := T.F_older_values.binds (ps := ["item", "stamp"]) fun _ _ _ _ _ _ us hl => match us, hl with | [_, _], _ => rfl
theorem b_value_read : Binds K T.d_value_read ["item", "stamp", "answer"] [] := T.F_value_read.binds (ps := ["item", "stamp", "answer"]) fun _ _ _ _ _ _ us hl => match us, hl with | [_, _, _], _ => rfl
theorem b_binds : Binds K T.d_binds ["ends", "spot", "answer"] [] := T.F_binds.binds (ps := ["ends", "spot", "answer"]) fun _ _ _ _ _ _ us hl => match us, hl with | [_, _, _], _ => rfl
theorem b_with_bond : Binds K T.d_with_bond ["state", "stamp", "holder"] [] := T.F_with_bond.binds (ps := ["state", "stamp", "holder"]) fun _ _ _ _ _ _ us hl => match us, hl with | [_, _, _], _ => rfl
theorem b_with_reader : Binds K T.d_with_reader ["state", "name", "stamp"] [] := T.F_with_reader.binds (ps := ["state", "name", "stamp"]) fun _ _ _ _ _ _ us hl => match us, hl with | [_, _, _], _ => rfl
theorem b_with_item : Binds K T.d_with_item ["state", "name", "item"] [] := T.F_with_item.binds (ps := ["state", "name", "item"]) fun _ _ _ _ _ _ us hl => match us, hl with | [_, _, _], _ => rfl
theorem b_play : Binds K T.d_play ["book", "run"] [] := T.F_play.binds (ps := ["book", "run"]) fun _ _ _ _ _ _ us hl => match us, hl with | [_, _], _ => rfl
theorem b_traced : Binds K T.d_traced ["book", "run"] [] := T.F_traced.binds (ps := ["book", "run"]) fun _ _ _ _ _ _ us hl => match us, hl with | [_, _], _ => rfl
theorem b_check_run : Binds K T.d_check_run ["run"] [] := T.F_check_run.binds (ps := ["run"]) fun _ _ _ _ _ _ us hl => match us, hl with | [_], _ => rfl
theorem b_is_step : Binds K T.d_is_step ["part"] [] := T.F_is_step.binds (ps := ["part"]) fun _ _ _ _ _ _ us hl => match us, hl with | [_], _ => rfl
theorem b_is_name : Binds K T.d_is_name ["name"] [] := T.F_is_name.binds (ps := ["name"]) fun _ _ _ _ _ _ us hl => match us, hl with | [_], _ => rfl
theorem b_answers_at : Binds K T.d_answers_at ["entry"] [] := T.F_answers_at.binds (ps := ["entry"]) fun _ _ _ _ _ _ us hl => match us, hl with | [_], _ => rfl
theorem b_check_answer : Binds K T.d_check_answer ["entry", "answer"] [] := T.F_check_answer.binds (ps := ["entry", "answer"]) fun _ _ _ _ _ _ us hl => match us, hl with | [_, _], _ => rfl
theorem b_is_keep : Binds K T.d_is_keep ["keep"] [] := T.F_is_keep.binds (ps := ["keep"]) fun _ _ _ _ _ _ us hl => match us, hl with | [_], _ => rfl
theorem b_law_cell : Binds K T.d_law_cell ["_law_script", "_law_k"] [] := T.F_law_cell.binds (ps := ["_law_script", "_law_k"]) fun _ _ _ _ _ _ us hl => match us, hl with | [_, _], _ => rfl
theorem b_law_row : Binds K T.d_law_row ["_law_cell_here", "_law_count", "_law_base"] [] := T.F_law_row.binds (ps := ["_law_cell_here", "_law_count", "_law_base"]) fun _ _ _ _ _ _ us hl => match us, hl with | [_, _, _], _ => rfl
theorem b_law_entries : Binds K T.d_law_entries [] [] := T.F_law_entries.binds (ps := []) fun _ _ _ _ _ _ us hl => match us, hl with | [], _ => rfl
theorem b_law_choices : Binds K T.d_law_choices ["_law_name"] [] := T.F_law_choices.binds (ps := ["_law_name"]) fun _ _ _ _ _ _ us hl => match us, hl with | [_], _ => rfl
theorem b_law_names : Binds K T.d_law_names ["_law_cell_here"] [] := T.F_law_names.binds (ps := ["_law_cell_here"]) fun _ _ _ _ _ _ us hl => match us, hl with | [_], _ => rfl
theorem b_law_ints : Binds K T.d_law_ints ["_law_actual", "_law_due_here"] [] := T.F_law_ints.binds (ps := ["_law_actual", "_law_due_here"]) fun _ _ _ _ _ _ us hl => match us, hl with | [_, _], _ => rfl
theorem b_law_outcome : Binds K T.d_law_outcome ["_law_actual", "_law_due_here"] [] := T.F_law_outcome.binds (ps := ["_law_actual", "_law_due_here"]) fun _ _ _ _ _ _ us hl => match us, hl with | [_, _], _ => rfl
theorem b_law_ways : Binds K T.d_law_ways [] [] := T.F_law_ways.binds (ps := []) fun _ _ _ _ _ _ us hl => match us, hl with | [], _ => rfl
theorem b_law_scaled : Binds K T.d_law_scaled ["_law_text", "_law_scale", "_law_name"] [] := T.F_law_scaled.binds (ps := ["_law_text", "_law_scale", "_law_name"]) fun _ _ _ _ _ _ us hl => match us, hl with | [_, _, _], _ => rfl
theorem b_law_due : Binds K T.d_law_due ["_law_at", "_law_table", "_law_kept", "_law_scale"] [] := T.F_law_due.binds (ps := ["_law_at", "_law_table", "_law_kept", "_law_scale"]) fun _ _ _ _ _ _ us hl => match us, hl with | [_, _, _, _], _ => rfl
theorem b_law : Binds K T.d_law ["_law_script"] [] := T.F_law.binds (ps := ["_law_script"]) fun _ _ _ _ _ _ us hl => match us, hl with | [_], _ => rfl
end
theorem all_mk {w : World} {K : PySem.W.Frag} {h : Heap} {mg : Str → Option Value} {fa c_StampError c_BadEntry c_BadAnswer c_BadSetting c_BadStep c_Item c_State c_Book f_BadEntry_init f_BadAnswer_init f_BadSetting_init f_BadStep_init f_Item_init f_State_init f_Book_init f_Book_ends pr_Book_ends f_Book_keep pr_Book_keep f_Book_getitem f_is_stamp f_place f_first_state f_item_of f_ascending f_taken f_committed f_settled f_aborted f_without f_falling f_released f_requested f_asked f_entry_met f_fixed_answer f_older_values f_value_read f_binds f_with_bond f_with_reader f_with_item f_play f_traced f_check_run f_is_step f_is_name f_answers_at f_check_answer f_is_keep f_law_cell f_law_row f_law_entries f_law_choices f_law_names f_law_ints f_law_outcome f_law_ways f_law_scaled f_law_due f_law o_ENTRIES o_ANSWERS o0_ANSWERS o1_ANSWERS o2_ANSWERS o3_ANSWERS o4_ANSWERS o5_ANSWERS o6_ANSWERS o7_ANSWERS o8_ANSWERS o9_ANSWERS o10_ANSWERS o11_ANSWERS o12_ANSWERS o13_ANSWERS : Addr} (X : K.In h) (G : h.Ns mainGlobals mg) (hfa : mg "law" = some (.ref fa))
    {nm_StampError q_StampError : Str} {N_StampError : Addr} {bs_StampError : List Value} {sn_StampError : List Str} {sub_StampError : List Value} {ab_StampError : Bool} {col_StampError : Option Bool} {dd_StampError : Option Addr} {m0_StampError m1_StampError m2_StampError m3_StampError m5_StampError : Option Value}
    {nm_BadEntry q_BadEntry : Str} {N_BadEntry : Addr} {bs_BadEntry : List Value} {sn_BadEntry : List Str} {sub_BadEntry : List Value} {ab_BadEntry : Bool} {col_BadEntry : Option Bool} {dd_BadEntry : Option Addr} {m0_BadEntry m1_BadEntry m2_BadEntry m3_BadEntry m5_BadEntry : Option Value}
    {nm_BadAnswer q_BadAnswer : Str} {N_BadAnswer : Addr} {bs_BadAnswer : List Value} {sn_BadAnswer : List Str} {sub_BadAnswer : List Value} {ab_BadAnswer : Bool} {col_BadAnswer : Option Bool} {dd_BadAnswer : Option Addr} {m0_BadAnswer m1_BadAnswer m2_BadAnswer m3_BadAnswer m5_BadAnswer : Option Value}
    {nm_BadSetting q_BadSetting : Str} {N_BadSetting : Addr} {bs_BadSetting : List Value} {sn_BadSetting : List Str} {sub_BadSetting : List Value} {ab_BadSetting : Bool} {col_BadSetting : Option Bool} {dd_BadSetting : Option Addr} {m0_BadSetting m1_BadSetting m2_BadSetting m3_BadSetting m5_BadSetting : Option Value}
    {nm_BadStep q_BadStep : Str} {N_BadStep : Addr} {bs_BadStep : List Value} {sn_BadStep : List Str} {sub_BadStep : List Value} {ab_BadStep : Bool} {col_BadStep : Option Bool} {dd_BadStep : Option Addr} {m0_BadStep m1_BadStep m2_BadStep m3_BadStep m5_BadStep : Option Value}
    {od_BadEntry_init an_BadEntry_init : Option Addr} {sl_BadEntry_init : Array (Option Value)} {oc_BadEntry_init kV_BadEntry_init dc_BadEntry_init pm_BadEntry_init ct_BadEntry_init : Value}
    {cc_BadEntry_init cdr_BadEntry_init : Addr} {ccl_BadEntry_init cdo_BadEntry_init : Value} {cdd_BadEntry_init cod_BadEntry_init : Option Addr} {ccs_BadEntry_init cos_BadEntry_init : Array (Option Value)} {cvs_BadEntry_init : Array Value} {cfile_BadEntry_init : Str} {ctk_BadEntry_init : Tok}
    {od_BadAnswer_init an_BadAnswer_init : Option Addr} {sl_BadAnswer_init : Array (Option Value)} {oc_BadAnswer_init kV_BadAnswer_init dc_BadAnswer_init pm_BadAnswer_init ct_BadAnswer_init : Value}
    {cc_BadAnswer_init cdr_BadAnswer_init : Addr} {ccl_BadAnswer_init cdo_BadAnswer_init : Value} {cdd_BadAnswer_init cod_BadAnswer_init : Option Addr} {ccs_BadAnswer_init cos_BadAnswer_init : Array (Option Value)} {cvs_BadAnswer_init : Array Value} {cfile_BadAnswer_init : Str} {ctk_BadAnswer_init : Tok}
    {od_BadSetting_init an_BadSetting_init : Option Addr} {sl_BadSetting_init : Array (Option Value)} {oc_BadSetting_init kV_BadSetting_init dc_BadSetting_init pm_BadSetting_init ct_BadSetting_init : Value}
    {cc_BadSetting_init cdr_BadSetting_init : Addr} {ccl_BadSetting_init cdo_BadSetting_init : Value} {cdd_BadSetting_init cod_BadSetting_init : Option Addr} {ccs_BadSetting_init cos_BadSetting_init : Array (Option Value)} {cvs_BadSetting_init : Array Value} {cfile_BadSetting_init : Str} {ctk_BadSetting_init : Tok}
    {od_BadStep_init an_BadStep_init : Option Addr} {sl_BadStep_init : Array (Option Value)} {oc_BadStep_init kV_BadStep_init dc_BadStep_init pm_BadStep_init ct_BadStep_init : Value}
    {cc_BadStep_init cdr_BadStep_init : Addr} {ccl_BadStep_init cdo_BadStep_init : Value} {cdd_BadStep_init cod_BadStep_init : Option Addr} {ccs_BadStep_init cos_BadStep_init : Array (Option Value)} {cvs_BadStep_init : Array Value} {cfile_BadStep_init : Str} {ctk_BadStep_init : Tok}
    {od_Item_init an_Item_init : Option Addr} {sl_Item_init : Array (Option Value)} {oc_Item_init kV_Item_init dc_Item_init pm_Item_init ct_Item_init : Value}
    {cd_Item_init : Value}
    {od_State_init an_State_init : Option Addr} {sl_State_init : Array (Option Value)} {oc_State_init kV_State_init dc_State_init pm_State_init ct_State_init : Value}
    {cd_State_init : Value}
    {od_Book_init an_Book_init : Option Addr} {sl_Book_init : Array (Option Value)} {oc_Book_init dc_Book_init pm_Book_init ct_Book_init : Value}
    {cd_Book_init : Value}
    {KD_Book_init : Addr}
    {tq0_Book_init : Tok}
    {tq1_Book_init : Tok}
    {T_Book_init : Addr} {Tn_Book_init : Nat}
    {Tc_Book_init : Value} {Td_Book_init : Option Addr} {Ts_Book_init : Array (Option Value)}
    {od_Book_ends an_Book_ends : Option Addr} {sl_Book_ends : Array (Option Value)} {oc_Book_ends kV_Book_ends dc_Book_ends pm_Book_ends ct_Book_ends : Value}
    {cd_Book_ends : Value}
    {rr_Book_ends : List Value}
    {od_Book_keep an_Book_keep : Option Addr} {sl_Book_keep : Array (Option Value)} {oc_Book_keep kV_Book_keep dc_Book_keep pm_Book_keep ct_Book_keep : Value}
    {cd_Book_keep : Value}
    {rr_Book_keep : List Value}
    {od_Book_getitem an_Book_getitem : Option Addr} {sl_Book_getitem : Array (Option Value)} {oc_Book_getitem kV_Book_getitem dc_Book_getitem pm_Book_getitem ct_Book_getitem : Value}
    {cd_Book_getitem : Value}
    {od_is_stamp an_is_stamp : Option Addr} {sl_is_stamp : Array (Option Value)} {oc_is_stamp kV_is_stamp dc_is_stamp pm_is_stamp ct_is_stamp : Value}
    {cd_is_stamp : Value}
    {T_is_stamp : Addr} {Tn_is_stamp : Nat}
    {tk0_is_stamp : Tok}
    {Tc_is_stamp : Value} {Td_is_stamp : Option Addr} {Ts_is_stamp : Array (Option Value)}
    {od_place an_place : Option Addr} {sl_place : Array (Option Value)} {oc_place kV_place dc_place pm_place ct_place : Value}
    {cd_place : Value}
    {od_first_state an_first_state : Option Addr} {sl_first_state : Array (Option Value)} {oc_first_state kV_first_state dc_first_state pm_first_state ct_first_state : Value}
    {cd_first_state : Value}
    {od_item_of an_item_of : Option Addr} {sl_item_of : Array (Option Value)} {oc_item_of kV_item_of dc_item_of pm_item_of ct_item_of : Value}
    {cd_item_of : Value}
    {od_ascending an_ascending : Option Addr} {sl_ascending : Array (Option Value)} {oc_ascending kV_ascending dc_ascending pm_ascending ct_ascending : Value}
    {cd_ascending : Value}
    {od_taken an_taken : Option Addr} {sl_taken : Array (Option Value)} {oc_taken kV_taken dc_taken pm_taken ct_taken : Value}
    {cd_taken : Value}
    {od_committed an_committed : Option Addr} {sl_committed : Array (Option Value)} {oc_committed kV_committed dc_committed pm_committed ct_committed : Value}
    {cd_committed : Value}
    {od_settled an_settled : Option Addr} {sl_settled : Array (Option Value)} {oc_settled kV_settled dc_settled pm_settled ct_settled : Value}
    {cd_settled : Value}
    {od_aborted an_aborted : Option Addr} {sl_aborted : Array (Option Value)} {oc_aborted kV_aborted dc_aborted pm_aborted ct_aborted : Value}
    {cd_aborted : Value}
    {od_without an_without : Option Addr} {sl_without : Array (Option Value)} {oc_without kV_without dc_without pm_without ct_without : Value}
    {cd_without : Value}
    {od_falling an_falling : Option Addr} {sl_falling : Array (Option Value)} {oc_falling kV_falling dc_falling pm_falling ct_falling : Value}
    {cd_falling : Value}
    {od_released an_released : Option Addr} {sl_released : Array (Option Value)} {oc_released kV_released dc_released pm_released ct_released : Value}
    {cd_released : Value}
    {od_requested an_requested : Option Addr} {sl_requested : Array (Option Value)} {oc_requested kV_requested dc_requested pm_requested ct_requested : Value}
    {cd_requested : Value}
    {od_asked an_asked : Option Addr} {sl_asked : Array (Option Value)} {oc_asked kV_asked dc_asked pm_asked ct_asked : Value}
    {cd_asked : Value}
    {od_entry_met an_entry_met : Option Addr} {sl_entry_met : Array (Option Value)} {oc_entry_met kV_entry_met dc_entry_met pm_entry_met ct_entry_met : Value}
    {cd_entry_met : Value}
    {od_fixed_answer an_fixed_answer : Option Addr} {sl_fixed_answer : Array (Option Value)} {oc_fixed_answer kV_fixed_answer dc_fixed_answer pm_fixed_answer ct_fixed_answer : Value}
    {cd_fixed_answer : Value}
    {od_older_values an_older_values : Option Addr} {sl_older_values : Array (Option Value)} {oc_older_values kV_older_values dc_older_values pm_older_values ct_older_values : Value}
    {cd_older_values : Value}
    {od_value_read an_value_read : Option Addr} {sl_value_read : Array (Option Value)} {oc_value_read kV_value_read dc_value_read pm_value_read ct_value_read : Value}
    {cd_value_read : Value}
    {od_binds an_binds : Option Addr} {sl_binds : Array (Option Value)} {oc_binds kV_binds dc_binds pm_binds ct_binds : Value}
    {cd_binds : Value}
    {od_with_bond an_with_bond : Option Addr} {sl_with_bond : Array (Option Value)} {oc_with_bond kV_with_bond dc_with_bond pm_with_bond ct_with_bond : Value}
    {cd_with_bond : Value}
    {od_with_reader an_with_reader : Option Addr} {sl_with_reader : Array (Option Value)} {oc_with_reader kV_with_reader dc_with_reader pm_with_reader ct_with_reader : Value}
    {cd_with_reader : Value}
    {od_with_item an_with_item : Option Addr} {sl_with_item : Array (Option Value)} {oc_with_item kV_with_item dc_with_item pm_with_item ct_with_item : Value}
    {cd_with_item : Value}
    {od_play an_play : Option Addr} {sl_play : Array (Option Value)} {oc_play kV_play dc_play pm_play ct_play : Value}
    {cd_play : Value}
    {od_traced an_traced : Option Addr} {sl_traced : Array (Option Value)} {oc_traced kV_traced dc_traced pm_traced ct_traced : Value}
    {cd_traced : Value}
    {od_check_run an_check_run : Option Addr} {sl_check_run : Array (Option Value)} {oc_check_run kV_check_run dc_check_run pm_check_run ct_check_run : Value}
    {cd_check_run : Value}
    {od_is_step an_is_step : Option Addr} {sl_is_step : Array (Option Value)} {oc_is_step kV_is_step dc_is_step pm_is_step ct_is_step : Value}
    {cd_is_step : Value}
    {od_is_name an_is_name : Option Addr} {sl_is_name : Array (Option Value)} {oc_is_name kV_is_name dc_is_name pm_is_name ct_is_name : Value}
    {cd_is_name : Value}
    {od_answers_at an_answers_at : Option Addr} {sl_answers_at : Array (Option Value)} {oc_answers_at kV_answers_at dc_answers_at pm_answers_at ct_answers_at : Value}
    {cd_answers_at : Value}
    {od_check_answer an_check_answer : Option Addr} {sl_check_answer : Array (Option Value)} {oc_check_answer kV_check_answer dc_check_answer pm_check_answer ct_check_answer : Value}
    {cd_check_answer : Value}
    {od_is_keep an_is_keep : Option Addr} {sl_is_keep : Array (Option Value)} {oc_is_keep kV_is_keep dc_is_keep pm_is_keep ct_is_keep : Value}
    {cd_is_keep : Value}
    {od_law_cell an_law_cell : Option Addr} {sl_law_cell : Array (Option Value)} {oc_law_cell kV_law_cell dc_law_cell pm_law_cell ct_law_cell : Value}
    {cd_law_cell : Value}
    {od_law_row an_law_row : Option Addr} {sl_law_row : Array (Option Value)} {oc_law_row kV_law_row dc_law_row pm_law_row ct_law_row : Value}
    {cd_law_row : Value}
    {od_law_entries an_law_entries : Option Addr} {sl_law_entries : Array (Option Value)} {oc_law_entries kV_law_entries dc_law_entries pm_law_entries ct_law_entries : Value}
    {cd_law_entries : Value}
    {od_law_choices an_law_choices : Option Addr} {sl_law_choices : Array (Option Value)} {oc_law_choices kV_law_choices dc_law_choices pm_law_choices ct_law_choices : Value}
    {cd_law_choices : Value}
    {od_law_names an_law_names : Option Addr} {sl_law_names : Array (Option Value)} {oc_law_names kV_law_names dc_law_names pm_law_names ct_law_names : Value}
    {cd_law_names : Value}
    {od_law_ints an_law_ints : Option Addr} {sl_law_ints : Array (Option Value)} {oc_law_ints kV_law_ints dc_law_ints pm_law_ints ct_law_ints : Value}
    {cd_law_ints : Value}
    {od_law_outcome an_law_outcome : Option Addr} {sl_law_outcome : Array (Option Value)} {oc_law_outcome kV_law_outcome dc_law_outcome pm_law_outcome ct_law_outcome : Value}
    {cd_law_outcome : Value}
    {od_law_ways an_law_ways : Option Addr} {sl_law_ways : Array (Option Value)} {oc_law_ways kV_law_ways dc_law_ways pm_law_ways ct_law_ways : Value}
    {cd_law_ways : Value}
    {od_law_scaled an_law_scaled : Option Addr} {sl_law_scaled : Array (Option Value)} {oc_law_scaled kV_law_scaled dc_law_scaled pm_law_scaled ct_law_scaled : Value}
    {cd_law_scaled : Value}
    {od_law_due an_law_due : Option Addr} {sl_law_due : Array (Option Value)} {oc_law_due kV_law_due dc_law_due pm_law_due ct_law_due : Value}
    {cd_law_due : Value}
    {od_law an_law : Option Addr} {sl_law : Array (Option Value)} {oc_law kV_law dc_law pm_law ct_law : Value}
    {cd_law : Value}
    {tk_GREATEST : Tok}
    {tk_SIGNS : Tok}
    {tk_LONGEST_NAME : Tok}
    {u0_ENTRIES u1_ENTRIES u2_ENTRIES u3_ENTRIES u4_ENTRIES u5_ENTRIES u6_ENTRIES u7_ENTRIES u8_ENTRIES u9_ENTRIES u10_ENTRIES u11_ENTRIES u12_ENTRIES u13_ENTRIES : Tok}
    {td_ENTRIES : Option Addr} {tn_ENTRIES : Nat} {ts_ENTRIES : Array (Option Value)}
    {h0_ANSWERS : Int} {tk0_ANSWERS : Tok}
    {h1_ANSWERS : Int} {tk1_ANSWERS : Tok}
    {h2_ANSWERS : Int} {tk2_ANSWERS : Tok}
    {h3_ANSWERS : Int} {tk3_ANSWERS : Tok}
    {h4_ANSWERS : Int} {tk4_ANSWERS : Tok}
    {h5_ANSWERS : Int} {tk5_ANSWERS : Tok}
    {h6_ANSWERS : Int} {tk6_ANSWERS : Tok}
    {h7_ANSWERS : Int} {tk7_ANSWERS : Tok}
    {h8_ANSWERS : Int} {tk8_ANSWERS : Tok}
    {h9_ANSWERS : Int} {tk9_ANSWERS : Tok}
    {h10_ANSWERS : Int} {tk10_ANSWERS : Tok}
    {h11_ANSWERS : Int} {tk11_ANSWERS : Tok}
    {h12_ANSWERS : Int} {tk12_ANSWERS : Tok}
    {h13_ANSWERS : Int} {tk13_ANSWERS : Tok}
    {ep_ANSWERS : Nat}
    {u0_0_ANSWERS u1_0_ANSWERS u2_0_ANSWERS : Tok}
    {td_0_ANSWERS : Option Addr} {tn_0_ANSWERS : Nat} {ts_0_ANSWERS : Array (Option Value)}
    {u0_1_ANSWERS u1_1_ANSWERS u2_1_ANSWERS u3_1_ANSWERS u4_1_ANSWERS : Tok}
    {td_1_ANSWERS : Option Addr} {tn_1_ANSWERS : Nat} {ts_1_ANSWERS : Array (Option Value)}
    {u0_2_ANSWERS u1_2_ANSWERS u2_2_ANSWERS u3_2_ANSWERS : Tok}
    {td_2_ANSWERS : Option Addr} {tn_2_ANSWERS : Nat} {ts_2_ANSWERS : Array (Option Value)}
    {u0_3_ANSWERS u1_3_ANSWERS u2_3_ANSWERS u3_3_ANSWERS : Tok}
    {td_3_ANSWERS : Option Addr} {tn_3_ANSWERS : Nat} {ts_3_ANSWERS : Array (Option Value)}
    {u0_4_ANSWERS u1_4_ANSWERS : Tok}
    {td_4_ANSWERS : Option Addr} {tn_4_ANSWERS : Nat} {ts_4_ANSWERS : Array (Option Value)}
    {u0_5_ANSWERS u1_5_ANSWERS u2_5_ANSWERS u3_5_ANSWERS : Tok}
    {td_5_ANSWERS : Option Addr} {tn_5_ANSWERS : Nat} {ts_5_ANSWERS : Array (Option Value)}
    {u0_6_ANSWERS u1_6_ANSWERS u2_6_ANSWERS u3_6_ANSWERS : Tok}
    {td_6_ANSWERS : Option Addr} {tn_6_ANSWERS : Nat} {ts_6_ANSWERS : Array (Option Value)}
    {u0_7_ANSWERS u1_7_ANSWERS u2_7_ANSWERS u3_7_ANSWERS : Tok}
    {td_7_ANSWERS : Option Addr} {tn_7_ANSWERS : Nat} {ts_7_ANSWERS : Array (Option Value)}
    {u0_8_ANSWERS u1_8_ANSWERS : Tok}
    {td_8_ANSWERS : Option Addr} {tn_8_ANSWERS : Nat} {ts_8_ANSWERS : Array (Option Value)}
    {u0_9_ANSWERS u1_9_ANSWERS : Tok}
    {td_9_ANSWERS : Option Addr} {tn_9_ANSWERS : Nat} {ts_9_ANSWERS : Array (Option Value)}
    {u0_10_ANSWERS u1_10_ANSWERS : Tok}
    {td_10_ANSWERS : Option Addr} {tn_10_ANSWERS : Nat} {ts_10_ANSWERS : Array (Option Value)}
    {u0_11_ANSWERS u1_11_ANSWERS u2_11_ANSWERS u3_11_ANSWERS : Tok}
    {td_11_ANSWERS : Option Addr} {tn_11_ANSWERS : Nat} {ts_11_ANSWERS : Array (Option Value)}
    {u0_12_ANSWERS u1_12_ANSWERS u2_12_ANSWERS u3_12_ANSWERS : Tok}
    {td_12_ANSWERS : Option Addr} {tn_12_ANSWERS : Nat} {ts_12_ANSWERS : Array (Option Value)}
    {u0_13_ANSWERS u1_13_ANSWERS u2_13_ANSWERS u3_13_ANSWERS : Tok}
    {td_13_ANSWERS : Option Addr} {tn_13_ANSWERS : Nat} {ts_13_ANSWERS : Array (Option Value)}
    {tk_MOST_KEPT : Tok}
    (z_hn : PySem.W.specialIn K (.builtin "object.__class__") "__get__" = some (some (.builtin "getset_descriptor.__get__")))
    (z_ht : PySem.W.takesIn K (.builtin "object.__class__") = some true)
    (gc_StampError : PySem.W.nsIn K mainGlobals "StampError" = some (some (.ref c_StampError)))
    (kc_StampError : PySem.W.keepIn K (.ref c_StampError) = true)
    (gc_BadEntry : PySem.W.nsIn K mainGlobals "BadEntry" = some (some (.ref c_BadEntry)))
    (kc_BadEntry : PySem.W.keepIn K (.ref c_BadEntry) = true)
    (gc_BadAnswer : PySem.W.nsIn K mainGlobals "BadAnswer" = some (some (.ref c_BadAnswer)))
    (kc_BadAnswer : PySem.W.keepIn K (.ref c_BadAnswer) = true)
    (gc_BadSetting : PySem.W.nsIn K mainGlobals "BadSetting" = some (some (.ref c_BadSetting)))
    (kc_BadSetting : PySem.W.keepIn K (.ref c_BadSetting) = true)
    (gc_BadStep : PySem.W.nsIn K mainGlobals "BadStep" = some (some (.ref c_BadStep)))
    (kc_BadStep : PySem.W.keepIn K (.ref c_BadStep) = true)
    (gc_Item : PySem.W.nsIn K mainGlobals "Item" = some (some (.ref c_Item)))
    (kc_Item : PySem.W.keepIn K (.ref c_Item) = true)
    (gc_State : PySem.W.nsIn K mainGlobals "State" = some (some (.ref c_State)))
    (kc_State : PySem.W.keepIn K (.ref c_State) = true)
    (gc_Book : PySem.W.nsIn K mainGlobals "Book" = some (some (.ref c_Book)))
    (kc_Book : PySem.W.keepIn K (.ref c_Book) = true)
    (xl_StampError : K.lookup c_StampError = some (excClassObj nm_StampError q_StampError c_StampError N_StampError bs_StampError [.type "ValueError", .type "Exception", .type "BaseException", .type "object"] true sn_StampError sub_StampError ab_StampError col_StampError dd_StampError m0_StampError m1_StampError m2_StampError m3_StampError m5_StampError "ValueError.__new__"))
    (sa_StampError : PySem.W.findIn K (.ref c_StampError) "__setattr__" = some (some (.builtin "object.__setattr__")))
    (xb_StampError : PySem.W.subIn K (.ref c_StampError) (.type "BaseException") = some true)
    (xt_StampError : PySem.W.typeIn K (.ref c_StampError) = some (.type "type"))
    (ga_StampError : PySem.W.findIn K (.ref c_StampError) "__getattribute__" = some (some (.builtin "BaseException.__getattribute__")))
    (gg_StampError : PySem.W.findIn K (.ref c_StampError) "__getattr__" = some none)
    (hd_StampError : PySem.W.hasDictIn K c_StampError = true)
    (ha_StampError : PySem.W.findIn K (.ref c_StampError) "__class__" = some (some (.builtin "object.__class__")))
    (hm_StampError : PySem.W.mroIn K c_StampError (.type "object") = some true)
    (sb_StampError_StampError : PySem.W.subIn K (.ref c_StampError) (.ref c_StampError) = some true)
    (ko_StampError_StampError : PySem.W.kitOne K (.ref c_StampError) (.ref c_StampError) = some true)
    (sb_StampError_BadEntry : PySem.W.subIn K (.ref c_StampError) (.ref c_BadEntry) = some false)
    (ko_StampError_BadEntry : PySem.W.kitOne K (.ref c_StampError) (.ref c_BadEntry) = some false)
    (sb_StampError_BadAnswer : PySem.W.subIn K (.ref c_StampError) (.ref c_BadAnswer) = some false)
    (ko_StampError_BadAnswer : PySem.W.kitOne K (.ref c_StampError) (.ref c_BadAnswer) = some false)
    (sb_StampError_BadSetting : PySem.W.subIn K (.ref c_StampError) (.ref c_BadSetting) = some false)
    (ko_StampError_BadSetting : PySem.W.kitOne K (.ref c_StampError) (.ref c_BadSetting) = some false)
    (sb_StampError_BadStep : PySem.W.subIn K (.ref c_StampError) (.ref c_BadStep) = some false)
    (ko_StampError_BadStep : PySem.W.kitOne K (.ref c_StampError) (.ref c_BadStep) = some false)
    (kv_StampError : PySem.W.kitOne K (.ref c_StampError) (.type "ValueError") = some true)
    (xl_BadEntry : K.lookup c_BadEntry = some (excClassObj nm_BadEntry q_BadEntry c_BadEntry N_BadEntry bs_BadEntry [.ref c_StampError, .type "ValueError", .type "Exception", .type "BaseException", .type "object"] true sn_BadEntry sub_BadEntry ab_BadEntry col_BadEntry dd_BadEntry m0_BadEntry m1_BadEntry m2_BadEntry m3_BadEntry m5_BadEntry "ValueError.__new__"))
    (sa_BadEntry : PySem.W.findIn K (.ref c_BadEntry) "__setattr__" = some (some (.builtin "object.__setattr__")))
    (xb_BadEntry : PySem.W.subIn K (.ref c_BadEntry) (.type "BaseException") = some true)
    (xt_BadEntry : PySem.W.typeIn K (.ref c_BadEntry) = some (.type "type"))
    (ga_BadEntry : PySem.W.findIn K (.ref c_BadEntry) "__getattribute__" = some (some (.builtin "BaseException.__getattribute__")))
    (gg_BadEntry : PySem.W.findIn K (.ref c_BadEntry) "__getattr__" = some none)
    (hd_BadEntry : PySem.W.hasDictIn K c_BadEntry = true)
    (ha_BadEntry : PySem.W.findIn K (.ref c_BadEntry) "__class__" = some (some (.builtin "object.__class__")))
    (hm_BadEntry : PySem.W.mroIn K c_BadEntry (.type "object") = some true)
    (sb_BadEntry_StampError : PySem.W.subIn K (.ref c_BadEntry) (.ref c_StampError) = some true)
    (ko_BadEntry_StampError : PySem.W.kitOne K (.ref c_BadEntry) (.ref c_StampError) = some true)
    (sb_BadEntry_BadEntry : PySem.W.subIn K (.ref c_BadEntry) (.ref c_BadEntry) = some true)
    (ko_BadEntry_BadEntry : PySem.W.kitOne K (.ref c_BadEntry) (.ref c_BadEntry) = some true)
    (sb_BadEntry_BadAnswer : PySem.W.subIn K (.ref c_BadEntry) (.ref c_BadAnswer) = some false)
    (ko_BadEntry_BadAnswer : PySem.W.kitOne K (.ref c_BadEntry) (.ref c_BadAnswer) = some false)
    (sb_BadEntry_BadSetting : PySem.W.subIn K (.ref c_BadEntry) (.ref c_BadSetting) = some false)
    (ko_BadEntry_BadSetting : PySem.W.kitOne K (.ref c_BadEntry) (.ref c_BadSetting) = some false)
    (sb_BadEntry_BadStep : PySem.W.subIn K (.ref c_BadEntry) (.ref c_BadStep) = some false)
    (ko_BadEntry_BadStep : PySem.W.kitOne K (.ref c_BadEntry) (.ref c_BadStep) = some false)
    (kv_BadEntry : PySem.W.kitOne K (.ref c_BadEntry) (.type "ValueError") = some true)
    (na_BadEntry_entry : PySem.W.findIn K (.ref c_BadEntry) "entry" = some none)
    (xl_BadAnswer : K.lookup c_BadAnswer = some (excClassObj nm_BadAnswer q_BadAnswer c_BadAnswer N_BadAnswer bs_BadAnswer [.ref c_StampError, .type "ValueError", .type "Exception", .type "BaseException", .type "object"] true sn_BadAnswer sub_BadAnswer ab_BadAnswer col_BadAnswer dd_BadAnswer m0_BadAnswer m1_BadAnswer m2_BadAnswer m3_BadAnswer m5_BadAnswer "ValueError.__new__"))
    (sa_BadAnswer : PySem.W.findIn K (.ref c_BadAnswer) "__setattr__" = some (some (.builtin "object.__setattr__")))
    (xb_BadAnswer : PySem.W.subIn K (.ref c_BadAnswer) (.type "BaseException") = some true)
    (xt_BadAnswer : PySem.W.typeIn K (.ref c_BadAnswer) = some (.type "type"))
    (ga_BadAnswer : PySem.W.findIn K (.ref c_BadAnswer) "__getattribute__" = some (some (.builtin "BaseException.__getattribute__")))
    (gg_BadAnswer : PySem.W.findIn K (.ref c_BadAnswer) "__getattr__" = some none)
    (hd_BadAnswer : PySem.W.hasDictIn K c_BadAnswer = true)
    (ha_BadAnswer : PySem.W.findIn K (.ref c_BadAnswer) "__class__" = some (some (.builtin "object.__class__")))
    (hm_BadAnswer : PySem.W.mroIn K c_BadAnswer (.type "object") = some true)
    (sb_BadAnswer_StampError : PySem.W.subIn K (.ref c_BadAnswer) (.ref c_StampError) = some true)
    (ko_BadAnswer_StampError : PySem.W.kitOne K (.ref c_BadAnswer) (.ref c_StampError) = some true)
    (sb_BadAnswer_BadEntry : PySem.W.subIn K (.ref c_BadAnswer) (.ref c_BadEntry) = some false)
    (ko_BadAnswer_BadEntry : PySem.W.kitOne K (.ref c_BadAnswer) (.ref c_BadEntry) = some false)
    (sb_BadAnswer_BadAnswer : PySem.W.subIn K (.ref c_BadAnswer) (.ref c_BadAnswer) = some true)
    (ko_BadAnswer_BadAnswer : PySem.W.kitOne K (.ref c_BadAnswer) (.ref c_BadAnswer) = some true)
    (sb_BadAnswer_BadSetting : PySem.W.subIn K (.ref c_BadAnswer) (.ref c_BadSetting) = some false)
    (ko_BadAnswer_BadSetting : PySem.W.kitOne K (.ref c_BadAnswer) (.ref c_BadSetting) = some false)
    (sb_BadAnswer_BadStep : PySem.W.subIn K (.ref c_BadAnswer) (.ref c_BadStep) = some false)
    (ko_BadAnswer_BadStep : PySem.W.kitOne K (.ref c_BadAnswer) (.ref c_BadStep) = some false)
    (kv_BadAnswer : PySem.W.kitOne K (.ref c_BadAnswer) (.type "ValueError") = some true)
    (na_BadAnswer_answer : PySem.W.findIn K (.ref c_BadAnswer) "answer" = some none)
    (na_BadAnswer_entry : PySem.W.findIn K (.ref c_BadAnswer) "entry" = some none)
    (xl_BadSetting : K.lookup c_BadSetting = some (excClassObj nm_BadSetting q_BadSetting c_BadSetting N_BadSetting bs_BadSetting [.ref c_StampError, .type "ValueError", .type "Exception", .type "BaseException", .type "object"] true sn_BadSetting sub_BadSetting ab_BadSetting col_BadSetting dd_BadSetting m0_BadSetting m1_BadSetting m2_BadSetting m3_BadSetting m5_BadSetting "ValueError.__new__"))
    (sa_BadSetting : PySem.W.findIn K (.ref c_BadSetting) "__setattr__" = some (some (.builtin "object.__setattr__")))
    (xb_BadSetting : PySem.W.subIn K (.ref c_BadSetting) (.type "BaseException") = some true)
    (xt_BadSetting : PySem.W.typeIn K (.ref c_BadSetting) = some (.type "type"))
    (ga_BadSetting : PySem.W.findIn K (.ref c_BadSetting) "__getattribute__" = some (some (.builtin "BaseException.__getattribute__")))
    (gg_BadSetting : PySem.W.findIn K (.ref c_BadSetting) "__getattr__" = some none)
    (hd_BadSetting : PySem.W.hasDictIn K c_BadSetting = true)
    (ha_BadSetting : PySem.W.findIn K (.ref c_BadSetting) "__class__" = some (some (.builtin "object.__class__")))
    (hm_BadSetting : PySem.W.mroIn K c_BadSetting (.type "object") = some true)
    (sb_BadSetting_StampError : PySem.W.subIn K (.ref c_BadSetting) (.ref c_StampError) = some true)
    (ko_BadSetting_StampError : PySem.W.kitOne K (.ref c_BadSetting) (.ref c_StampError) = some true)
    (sb_BadSetting_BadEntry : PySem.W.subIn K (.ref c_BadSetting) (.ref c_BadEntry) = some false)
    (ko_BadSetting_BadEntry : PySem.W.kitOne K (.ref c_BadSetting) (.ref c_BadEntry) = some false)
    (sb_BadSetting_BadAnswer : PySem.W.subIn K (.ref c_BadSetting) (.ref c_BadAnswer) = some false)
    (ko_BadSetting_BadAnswer : PySem.W.kitOne K (.ref c_BadSetting) (.ref c_BadAnswer) = some false)
    (sb_BadSetting_BadSetting : PySem.W.subIn K (.ref c_BadSetting) (.ref c_BadSetting) = some true)
    (ko_BadSetting_BadSetting : PySem.W.kitOne K (.ref c_BadSetting) (.ref c_BadSetting) = some true)
    (sb_BadSetting_BadStep : PySem.W.subIn K (.ref c_BadSetting) (.ref c_BadStep) = some false)
    (ko_BadSetting_BadStep : PySem.W.kitOne K (.ref c_BadSetting) (.ref c_BadStep) = some false)
    (kv_BadSetting : PySem.W.kitOne K (.ref c_BadSetting) (.type "ValueError") = some true)
    (na_BadSetting_given : PySem.W.findIn K (.ref c_BadSetting) "given" = some none)
    (xl_BadStep : K.lookup c_BadStep = some (excClassObj nm_BadStep q_BadStep c_BadStep N_BadStep bs_BadStep [.ref c_StampError, .type "ValueError", .type "Exception", .type "BaseException", .type "object"] true sn_BadStep sub_BadStep ab_BadStep col_BadStep dd_BadStep m0_BadStep m1_BadStep m2_BadStep m3_BadStep m5_BadStep "ValueError.__new__"))
    (sa_BadStep : PySem.W.findIn K (.ref c_BadStep) "__setattr__" = some (some (.builtin "object.__setattr__")))
    (xb_BadStep : PySem.W.subIn K (.ref c_BadStep) (.type "BaseException") = some true)
    (xt_BadStep : PySem.W.typeIn K (.ref c_BadStep) = some (.type "type"))
    (ga_BadStep : PySem.W.findIn K (.ref c_BadStep) "__getattribute__" = some (some (.builtin "BaseException.__getattribute__")))
    (gg_BadStep : PySem.W.findIn K (.ref c_BadStep) "__getattr__" = some none)
    (hd_BadStep : PySem.W.hasDictIn K c_BadStep = true)
    (ha_BadStep : PySem.W.findIn K (.ref c_BadStep) "__class__" = some (some (.builtin "object.__class__")))
    (hm_BadStep : PySem.W.mroIn K c_BadStep (.type "object") = some true)
    (sb_BadStep_StampError : PySem.W.subIn K (.ref c_BadStep) (.ref c_StampError) = some true)
    (ko_BadStep_StampError : PySem.W.kitOne K (.ref c_BadStep) (.ref c_StampError) = some true)
    (sb_BadStep_BadEntry : PySem.W.subIn K (.ref c_BadStep) (.ref c_BadEntry) = some false)
    (ko_BadStep_BadEntry : PySem.W.kitOne K (.ref c_BadStep) (.ref c_BadEntry) = some false)
    (sb_BadStep_BadAnswer : PySem.W.subIn K (.ref c_BadStep) (.ref c_BadAnswer) = some false)
    (ko_BadStep_BadAnswer : PySem.W.kitOne K (.ref c_BadStep) (.ref c_BadAnswer) = some false)
    (sb_BadStep_BadSetting : PySem.W.subIn K (.ref c_BadStep) (.ref c_BadSetting) = some false)
    (ko_BadStep_BadSetting : PySem.W.kitOne K (.ref c_BadStep) (.ref c_BadSetting) = some false)
    (sb_BadStep_BadStep : PySem.W.subIn K (.ref c_BadStep) (.ref c_BadStep) = some true)
    (ko_BadStep_BadStep : PySem.W.kitOne K (.ref c_BadStep) (.ref c_BadStep) = some true)
    (kv_BadStep : PySem.W.kitOne K (.ref c_BadStep) (.type "ValueError") = some true)
    (na_BadStep_index : PySem.W.findIn K (.ref c_BadStep) "index" = some none)
    (pg_Item : PySem.W.plainGet K c_Item Str.empty = true)
    (hd_Item : PySem.W.hasDictIn K c_Item = true)
    (po_Item : PySem.W.plainOver K c_Item = true)
    (sa_Item : PySem.W.findIn K (.ref c_Item) "__setattr__" = some (some (.builtin "object.__setattr__")))
    (mk_Item : PySem.W.makesIn K c_Item = true)
    (ha_Item : PySem.W.findIn K (.ref c_Item) "__class__" = some (some (.builtin "object.__class__")))
    (hm_Item : PySem.W.mroIn K c_Item (.type "object") = some true)
    (ko_Item : PySem.W.kitOne K (.ref c_Item) (.ref c_Item) = some true)
    (na_Item_holder : PySem.W.findIn K (.ref c_Item) "holder" = some none)
    (na_Item_kept : PySem.W.findIn K (.ref c_Item) "kept" = some none)
    (na_Item_reader : PySem.W.findIn K (.ref c_Item) "reader" = some none)
    (na_Item_value : PySem.W.findIn K (.ref c_Item) "value" = some none)
    (pg_State : PySem.W.plainGet K c_State Str.empty = true)
    (hd_State : PySem.W.hasDictIn K c_State = true)
    (po_State : PySem.W.plainOver K c_State = true)
    (sa_State : PySem.W.findIn K (.ref c_State) "__setattr__" = some (some (.builtin "object.__setattr__")))
    (mk_State : PySem.W.makesIn K c_State = true)
    (ha_State : PySem.W.findIn K (.ref c_State) "__class__" = some (some (.builtin "object.__class__")))
    (hm_State : PySem.W.mroIn K c_State (.type "object") = some true)
    (ko_State : PySem.W.kitOne K (.ref c_State) (.ref c_State) = some true)
    (na_State_bonds : PySem.W.findIn K (.ref c_State) "bonds" = some none)
    (na_State_over : PySem.W.findIn K (.ref c_State) "over" = some none)
    (na_State_store : PySem.W.findIn K (.ref c_State) "store" = some none)
    (pg_Book : PySem.W.plainGet K c_Book Str.empty = true)
    (hd_Book : PySem.W.hasDictIn K c_Book = true)
    (po_Book : PySem.W.plainOver K c_Book = true)
    (sa_Book : PySem.W.findIn K (.ref c_Book) "__setattr__" = some (some (.builtin "object.__setattr__")))
    (mk_Book : PySem.W.makesIn K c_Book = true)
    (ha_Book : PySem.W.findIn K (.ref c_Book) "__class__" = some (some (.builtin "object.__class__")))
    (hm_Book : PySem.W.mroIn K c_Book (.type "object") = some true)
    (ko_Book : PySem.W.kitOne K (.ref c_Book) (.ref c_Book) = some true)
    (na_Book__answers : PySem.W.findIn K (.ref c_Book) "_answers" = some none)
    (na_Book__ends : PySem.W.findIn K (.ref c_Book) "_ends" = some none)
    (na_Book__keep : PySem.W.findIn K (.ref c_Book) "_keep" = some none)
    (a_BadEntry_init : PySem.W.findIn K (.ref c_BadEntry) "__init__" = some (some (.ref f_BadEntry_init)))
    (l_BadEntry_init : K.lookup f_BadEntry_init = some ⟨oc_BadEntry_init, od_BadEntry_init, .func (PySem.W.fnX "__init__" "BadEntry.__init__" (defArgs s_BadEntry_init) (defBody s_BadEntry_init) (defScope s_BadEntry_init) [(("__class__" : Str), cc_BadEntry_init)] .none kV_BadEntry_init dc_BadEntry_init pm_BadEntry_init an_BadEntry_init (.ref cdr_BadEntry_init) ct_BadEntry_init), sl_BadEntry_init⟩)
    (c_BadEntry_init : PySem.W.codeIn K (.ref cdr_BadEntry_init) "BadEntry.__init__" = true)
    (cl_BadEntry_init : K.lookup cc_BadEntry_init = some ⟨ccl_BadEntry_init, cdd_BadEntry_init, .cell (some (.ref c_BadEntry)), ccs_BadEntry_init⟩)
    (cv_BadEntry_init : K.lookup cdr_BadEntry_init = some ⟨cdo_BadEntry_init, cod_BadEntry_init, .fields cvs_BadEntry_init, cos_BadEntry_init⟩)
    (cw_BadEntry_init : cvs_BadEntry_init[2]? = some (.str cfile_BadEntry_init ctk_BadEntry_init))
    (cx_BadEntry_init : ((PySem.Challenge.rw_stamprules_k11_what_an_answer_does.prog.main.file : Str) == cfile_BadEntry_init) = true)
    (tp_BadEntry_init : (PySem.Challenge.rw_stamprules_k11_what_an_answer_does.prog.main.scope.names.lookup ("super" : Str)).isSome = false)
    (su_BadEntry_init : PySem.W.ks_superIn K c_BadEntry c_BadEntry "__init__" = some (some (.builtin "ValueError.__init__")))
    (ve_BadEntry_init : PySem.W.subIn K (.ref c_BadEntry) (.type "ValueError") = some true)
    (md_BadEntry_init : PySem.W.mroIn K c_BadEntry (.ref c_BadEntry) = some true)
    (ti_BadEntry_init : PySem.W.typeIn K (.ref f_BadEntry_init) = some (.type "function"))
    (z_th : PySem.W.nsIn K cStatics "thirdparty.any" = some none)
    (z_su : PySem.W.nsIn K mainGlobals "super" = some none)
    (a_BadAnswer_init : PySem.W.findIn K (.ref c_BadAnswer) "__init__" = some (some (.ref f_BadAnswer_init)))
    (l_BadAnswer_init : K.lookup f_BadAnswer_init = some ⟨oc_BadAnswer_init, od_BadAnswer_init, .func (PySem.W.fnX "__init__" "BadAnswer.__init__" (defArgs s_BadAnswer_init) (defBody s_BadAnswer_init) (defScope s_BadAnswer_init) [(("__class__" : Str), cc_BadAnswer_init)] .none kV_BadAnswer_init dc_BadAnswer_init pm_BadAnswer_init an_BadAnswer_init (.ref cdr_BadAnswer_init) ct_BadAnswer_init), sl_BadAnswer_init⟩)
    (c_BadAnswer_init : PySem.W.codeIn K (.ref cdr_BadAnswer_init) "BadAnswer.__init__" = true)
    (cl_BadAnswer_init : K.lookup cc_BadAnswer_init = some ⟨ccl_BadAnswer_init, cdd_BadAnswer_init, .cell (some (.ref c_BadAnswer)), ccs_BadAnswer_init⟩)
    (cv_BadAnswer_init : K.lookup cdr_BadAnswer_init = some ⟨cdo_BadAnswer_init, cod_BadAnswer_init, .fields cvs_BadAnswer_init, cos_BadAnswer_init⟩)
    (cw_BadAnswer_init : cvs_BadAnswer_init[2]? = some (.str cfile_BadAnswer_init ctk_BadAnswer_init))
    (cx_BadAnswer_init : ((PySem.Challenge.rw_stamprules_k11_what_an_answer_does.prog.main.file : Str) == cfile_BadAnswer_init) = true)
    (tp_BadAnswer_init : (PySem.Challenge.rw_stamprules_k11_what_an_answer_does.prog.main.scope.names.lookup ("super" : Str)).isSome = false)
    (su_BadAnswer_init : PySem.W.ks_superIn K c_BadAnswer c_BadAnswer "__init__" = some (some (.builtin "ValueError.__init__")))
    (ve_BadAnswer_init : PySem.W.subIn K (.ref c_BadAnswer) (.type "ValueError") = some true)
    (md_BadAnswer_init : PySem.W.mroIn K c_BadAnswer (.ref c_BadAnswer) = some true)
    (ti_BadAnswer_init : PySem.W.typeIn K (.ref f_BadAnswer_init) = some (.type "function"))
    (a_BadSetting_init : PySem.W.findIn K (.ref c_BadSetting) "__init__" = some (some (.ref f_BadSetting_init)))
    (l_BadSetting_init : K.lookup f_BadSetting_init = some ⟨oc_BadSetting_init, od_BadSetting_init, .func (PySem.W.fnX "__init__" "BadSetting.__init__" (defArgs s_BadSetting_init) (defBody s_BadSetting_init) (defScope s_BadSetting_init) [(("__class__" : Str), cc_BadSetting_init)] .none kV_BadSetting_init dc_BadSetting_init pm_BadSetting_init an_BadSetting_init (.ref cdr_BadSetting_init) ct_BadSetting_init), sl_BadSetting_init⟩)
    (c_BadSetting_init : PySem.W.codeIn K (.ref cdr_BadSetting_init) "BadSetting.__init__" = true)
    (cl_BadSetting_init : K.lookup cc_BadSetting_init = some ⟨ccl_BadSetting_init, cdd_BadSetting_init, .cell (some (.ref c_BadSetting)), ccs_BadSetting_init⟩)
    (cv_BadSetting_init : K.lookup cdr_BadSetting_init = some ⟨cdo_BadSetting_init, cod_BadSetting_init, .fields cvs_BadSetting_init, cos_BadSetting_init⟩)
    (cw_BadSetting_init : cvs_BadSetting_init[2]? = some (.str cfile_BadSetting_init ctk_BadSetting_init))
    (cx_BadSetting_init : ((PySem.Challenge.rw_stamprules_k11_what_an_answer_does.prog.main.file : Str) == cfile_BadSetting_init) = true)
    (tp_BadSetting_init : (PySem.Challenge.rw_stamprules_k11_what_an_answer_does.prog.main.scope.names.lookup ("super" : Str)).isSome = false)
    (su_BadSetting_init : PySem.W.ks_superIn K c_BadSetting c_BadSetting "__init__" = some (some (.builtin "ValueError.__init__")))
    (ve_BadSetting_init : PySem.W.subIn K (.ref c_BadSetting) (.type "ValueError") = some true)
    (md_BadSetting_init : PySem.W.mroIn K c_BadSetting (.ref c_BadSetting) = some true)
    (ti_BadSetting_init : PySem.W.typeIn K (.ref f_BadSetting_init) = some (.type "function"))
    (a_BadStep_init : PySem.W.findIn K (.ref c_BadStep) "__init__" = some (some (.ref f_BadStep_init)))
    (l_BadStep_init : K.lookup f_BadStep_init = some ⟨oc_BadStep_init, od_BadStep_init, .func (PySem.W.fnX "__init__" "BadStep.__init__" (defArgs s_BadStep_init) (defBody s_BadStep_init) (defScope s_BadStep_init) [(("__class__" : Str), cc_BadStep_init)] .none kV_BadStep_init dc_BadStep_init pm_BadStep_init an_BadStep_init (.ref cdr_BadStep_init) ct_BadStep_init), sl_BadStep_init⟩)
    (c_BadStep_init : PySem.W.codeIn K (.ref cdr_BadStep_init) "BadStep.__init__" = true)
    (cl_BadStep_init : K.lookup cc_BadStep_init = some ⟨ccl_BadStep_init, cdd_BadStep_init, .cell (some (.ref c_BadStep)), ccs_BadStep_init⟩)
    (cv_BadStep_init : K.lookup cdr_BadStep_init = some ⟨cdo_BadStep_init, cod_BadStep_init, .fields cvs_BadStep_init, cos_BadStep_init⟩)
    (cw_BadStep_init : cvs_BadStep_init[2]? = some (.str cfile_BadStep_init ctk_BadStep_init))
    (cx_BadStep_init : ((PySem.Challenge.rw_stamprules_k11_what_an_answer_does.prog.main.file : Str) == cfile_BadStep_init) = true)
    (tp_BadStep_init : (PySem.Challenge.rw_stamprules_k11_what_an_answer_does.prog.main.scope.names.lookup ("super" : Str)).isSome = false)
    (su_BadStep_init : PySem.W.ks_superIn K c_BadStep c_BadStep "__init__" = some (some (.builtin "ValueError.__init__")))
    (ve_BadStep_init : PySem.W.subIn K (.ref c_BadStep) (.type "ValueError") = some true)
    (md_BadStep_init : PySem.W.mroIn K c_BadStep (.ref c_BadStep) = some true)
    (ti_BadStep_init : PySem.W.typeIn K (.ref f_BadStep_init) = some (.type "function"))
    (a_Item_init : PySem.W.findIn K (.ref c_Item) "__init__" = some (some (.ref f_Item_init)))
    (l_Item_init : K.lookup f_Item_init = some ⟨oc_Item_init, od_Item_init, .func (PySem.W.fnOf "__init__" "Item.__init__" (defArgs s_Item_init) (defBody s_Item_init) (defScope s_Item_init) .none kV_Item_init dc_Item_init pm_Item_init an_Item_init cd_Item_init ct_Item_init), sl_Item_init⟩)
    (c_Item_init : PySem.W.codeIn K cd_Item_init "Item.__init__" = true)
    (k_Item_init : PySem.W.keepIn K (.ref f_Item_init) = true)
    (fn_Item_init : PySem.W.isFn K (.ref f_Item_init) = true)
    (a_State_init : PySem.W.findIn K (.ref c_State) "__init__" = some (some (.ref f_State_init)))
    (l_State_init : K.lookup f_State_init = some ⟨oc_State_init, od_State_init, .func (PySem.W.fnOf "__init__" "State.__init__" (defArgs s_State_init) (defBody s_State_init) (defScope s_State_init) .none kV_State_init dc_State_init pm_State_init an_State_init cd_State_init ct_State_init), sl_State_init⟩)
    (c_State_init : PySem.W.codeIn K cd_State_init "State.__init__" = true)
    (k_State_init : PySem.W.keepIn K (.ref f_State_init) = true)
    (fn_State_init : PySem.W.isFn K (.ref f_State_init) = true)
    (a_Book_init : PySem.W.findIn K (.ref c_Book) "__init__" = some (some (.ref f_Book_init)))
    (l_Book_init : K.lookup f_Book_init = some ⟨oc_Book_init, od_Book_init, .func (PySem.W.fnOf "__init__" "Book.__init__" (defArgs s_Book_init) (defBody s_Book_init) (defScope s_Book_init) (.ref T_Book_init) (.ref KD_Book_init) dc_Book_init pm_Book_init an_Book_init cd_Book_init ct_Book_init), sl_Book_init⟩)
    (c_Book_init : PySem.W.codeIn K cd_Book_init "Book.__init__" = true)
    (k_Book_init : PySem.W.keepIn K (.ref f_Book_init) = true)
    (kw0_Book_init : PySem.W.nsIn K KD_Book_init "ends" = some (some (.str "now" tq0_Book_init)))
    (kw1_Book_init : PySem.W.nsIn K KD_Book_init "keep" = some (some (.int 1 tq1_Book_init)))
    (T1_Book_init : K.lookup T_Book_init = some ⟨Tc_Book_init, Td_Book_init, .seq #[.none] Tn_Book_init, Ts_Book_init⟩)
    (fn_Book_init : PySem.W.isFn K (.ref f_Book_init) = true)
    (a_Book_ends : PySem.W.findIn K (.ref c_Book) "ends" = some (some (.ref pr_Book_ends)))
    (pg_Book_ends : PySem.W.specialIn K (.ref pr_Book_ends) "__get__" = some (some (.builtin "property.__get__")))
    (pt_Book_ends : PySem.W.takesIn K (.ref pr_Book_ends) = some true)
    (pc_Book_ends : PySem.W.recIn K pr_Book_ends "property" = some (.ref f_Book_ends :: rr_Book_ends))
    (l_Book_ends : K.lookup f_Book_ends = some ⟨oc_Book_ends, od_Book_ends, .func (PySem.W.fnOf "ends" "Book.ends" (defArgs s_Book_ends) (defBody s_Book_ends) (defScope s_Book_ends) .none kV_Book_ends dc_Book_ends pm_Book_ends an_Book_ends cd_Book_ends ct_Book_ends), sl_Book_ends⟩)
    (c_Book_ends : PySem.W.codeIn K cd_Book_ends "Book.ends" = true)
    (k_Book_ends : PySem.W.keepIn K (.ref f_Book_ends) = true)
    (a_Book_keep : PySem.W.findIn K (.ref c_Book) "keep" = some (some (.ref pr_Book_keep)))
    (pg_Book_keep : PySem.W.specialIn K (.ref pr_Book_keep) "__get__" = some (some (.builtin "property.__get__")))
    (pt_Book_keep : PySem.W.takesIn K (.ref pr_Book_keep) = some true)
    (pc_Book_keep : PySem.W.recIn K pr_Book_keep "property" = some (.ref f_Book_keep :: rr_Book_keep))
    (l_Book_keep : K.lookup f_Book_keep = some ⟨oc_Book_keep, od_Book_keep, .func (PySem.W.fnOf "keep" "Book.keep" (defArgs s_Book_keep) (defBody s_Book_keep) (defScope s_Book_keep) .none kV_Book_keep dc_Book_keep pm_Book_keep an_Book_keep cd_Book_keep ct_Book_keep), sl_Book_keep⟩)
    (c_Book_keep : PySem.W.codeIn K cd_Book_keep "Book.keep" = true)
    (k_Book_keep : PySem.W.keepIn K (.ref f_Book_keep) = true)
    (a_Book_getitem : PySem.W.findIn K (.ref c_Book) "__getitem__" = some (some (.ref f_Book_getitem)))
    (l_Book_getitem : K.lookup f_Book_getitem = some ⟨oc_Book_getitem, od_Book_getitem, .func (PySem.W.fnOf "__getitem__" "Book.__getitem__" (defArgs s_Book_getitem) (defBody s_Book_getitem) (defScope s_Book_getitem) .none kV_Book_getitem dc_Book_getitem pm_Book_getitem an_Book_getitem cd_Book_getitem ct_Book_getitem), sl_Book_getitem⟩)
    (c_Book_getitem : PySem.W.codeIn K cd_Book_getitem "Book.__getitem__" = true)
    (k_Book_getitem : PySem.W.keepIn K (.ref f_Book_getitem) = true)
    (fn_Book_getitem : PySem.W.isFn K (.ref f_Book_getitem) = true)
    (nd_Book : PySem.W.mroIn K c_Book (.type "collections.deque") = some false)
    (fi_Book_getitem : PySem.W.fnIn K f_Book_getitem = true)
    (a_is_stamp : PySem.W.nsIn K mainGlobals "is_stamp" = some (some (.ref f_is_stamp)))
    (l_is_stamp : K.lookup f_is_stamp = some ⟨oc_is_stamp, od_is_stamp, .func (PySem.W.fnOf "is_stamp" "is_stamp" (defArgs s_is_stamp) (defBody s_is_stamp) (defScope s_is_stamp) (.ref T_is_stamp) kV_is_stamp dc_is_stamp pm_is_stamp an_is_stamp cd_is_stamp ct_is_stamp), sl_is_stamp⟩)
    (c_is_stamp : PySem.W.codeIn K cd_is_stamp "is_stamp" = true)
    (k_is_stamp : PySem.W.keepIn K (.ref f_is_stamp) = true)
    (T1_is_stamp : K.lookup T_is_stamp = some ⟨Tc_is_stamp, Td_is_stamp, .seq #[.int 0 tk0_is_stamp] Tn_is_stamp, Ts_is_stamp⟩)
    (a_place : PySem.W.nsIn K mainGlobals "place" = some (some (.ref f_place)))
    (l_place : K.lookup f_place = some ⟨oc_place, od_place, .func (PySem.W.fnOf "place" "place" (defArgs s_place) (defBody s_place) (defScope s_place) .none kV_place dc_place pm_place an_place cd_place ct_place), sl_place⟩)
    (c_place : PySem.W.codeIn K cd_place "place" = true)
    (k_place : PySem.W.keepIn K (.ref f_place) = true)
    (a_first_state : PySem.W.nsIn K mainGlobals "first_state" = some (some (.ref f_first_state)))
    (l_first_state : K.lookup f_first_state = some ⟨oc_first_state, od_first_state, .func (PySem.W.fnOf "first_state" "first_state" (defArgs s_first_state) (defBody s_first_state) (defScope s_first_state) .none kV_first_state dc_first_state pm_first_state an_first_state cd_first_state ct_first_state), sl_first_state⟩)
    (c_first_state : PySem.W.codeIn K cd_first_state "first_state" = true)
    (k_first_state : PySem.W.keepIn K (.ref f_first_state) = true)
    (a_item_of : PySem.W.nsIn K mainGlobals "item_of" = some (some (.ref f_item_of)))
    (l_item_of : K.lookup f_item_of = some ⟨oc_item_of, od_item_of, .func (PySem.W.fnOf "item_of" "item_of" (defArgs s_item_of) (defBody s_item_of) (defScope s_item_of) .none kV_item_of dc_item_of pm_item_of an_item_of cd_item_of ct_item_of), sl_item_of⟩)
    (c_item_of : PySem.W.codeIn K cd_item_of "item_of" = true)
    (k_item_of : PySem.W.keepIn K (.ref f_item_of) = true)
    (a_ascending : PySem.W.nsIn K mainGlobals "ascending" = some (some (.ref f_ascending)))
    (l_ascending : K.lookup f_ascending = some ⟨oc_ascending, od_ascending, .func (PySem.W.fnOf "ascending" "ascending" (defArgs s_ascending) (defBody s_ascending) (defScope s_ascending) .none kV_ascending dc_ascending pm_ascending an_ascending cd_ascending ct_ascending), sl_ascending⟩)
    (c_ascending : PySem.W.codeIn K cd_ascending "ascending" = true)
    (k_ascending : PySem.W.keepIn K (.ref f_ascending) = true)
    (a_taken : PySem.W.nsIn K mainGlobals "taken" = some (some (.ref f_taken)))
    (l_taken : K.lookup f_taken = some ⟨oc_taken, od_taken, .func (PySem.W.fnOf "taken" "taken" (defArgs s_taken) (defBody s_taken) (defScope s_taken) .none kV_taken dc_taken pm_taken an_taken cd_taken ct_taken), sl_taken⟩)
    (c_taken : PySem.W.codeIn K cd_taken "taken" = true)
    (k_taken : PySem.W.keepIn K (.ref f_taken) = true)
    (a_committed : PySem.W.nsIn K mainGlobals "committed" = some (some (.ref f_committed)))
    (l_committed : K.lookup f_committed = some ⟨oc_committed, od_committed, .func (PySem.W.fnOf "committed" "committed" (defArgs s_committed) (defBody s_committed) (defScope s_committed) .none kV_committed dc_committed pm_committed an_committed cd_committed ct_committed), sl_committed⟩)
    (c_committed : PySem.W.codeIn K cd_committed "committed" = true)
    (k_committed : PySem.W.keepIn K (.ref f_committed) = true)
    (a_settled : PySem.W.nsIn K mainGlobals "settled" = some (some (.ref f_settled)))
    (l_settled : K.lookup f_settled = some ⟨oc_settled, od_settled, .func (PySem.W.fnOf "settled" "settled" (defArgs s_settled) (defBody s_settled) (defScope s_settled) .none kV_settled dc_settled pm_settled an_settled cd_settled ct_settled), sl_settled⟩)
    (c_settled : PySem.W.codeIn K cd_settled "settled" = true)
    (k_settled : PySem.W.keepIn K (.ref f_settled) = true)
    (a_aborted : PySem.W.nsIn K mainGlobals "aborted" = some (some (.ref f_aborted)))
    (l_aborted : K.lookup f_aborted = some ⟨oc_aborted, od_aborted, .func (PySem.W.fnOf "aborted" "aborted" (defArgs s_aborted) (defBody s_aborted) (defScope s_aborted) .none kV_aborted dc_aborted pm_aborted an_aborted cd_aborted ct_aborted), sl_aborted⟩)
    (c_aborted : PySem.W.codeIn K cd_aborted "aborted" = true)
    (k_aborted : PySem.W.keepIn K (.ref f_aborted) = true)
    (a_without : PySem.W.nsIn K mainGlobals "without" = some (some (.ref f_without)))
    (l_without : K.lookup f_without = some ⟨oc_without, od_without, .func (PySem.W.fnOf "without" "without" (defArgs s_without) (defBody s_without) (defScope s_without) .none kV_without dc_without pm_without an_without cd_without ct_without), sl_without⟩)
    (c_without : PySem.W.codeIn K cd_without "without" = true)
    (k_without : PySem.W.keepIn K (.ref f_without) = true)
    (a_falling : PySem.W.nsIn K mainGlobals "falling" = some (some (.ref f_falling)))
    (l_falling : K.lookup f_falling = some ⟨oc_falling, od_falling, .func (PySem.W.fnOf "falling" "falling" (defArgs s_falling) (defBody s_falling) (defScope s_falling) .none kV_falling dc_falling pm_falling an_falling cd_falling ct_falling), sl_falling⟩)
    (c_falling : PySem.W.codeIn K cd_falling "falling" = true)
    (k_falling : PySem.W.keepIn K (.ref f_falling) = true)
    (a_released : PySem.W.nsIn K mainGlobals "released" = some (some (.ref f_released)))
    (l_released : K.lookup f_released = some ⟨oc_released, od_released, .func (PySem.W.fnOf "released" "released" (defArgs s_released) (defBody s_released) (defScope s_released) .none kV_released dc_released pm_released an_released cd_released ct_released), sl_released⟩)
    (c_released : PySem.W.codeIn K cd_released "released" = true)
    (k_released : PySem.W.keepIn K (.ref f_released) = true)
    (a_requested : PySem.W.nsIn K mainGlobals "requested" = some (some (.ref f_requested)))
    (l_requested : K.lookup f_requested = some ⟨oc_requested, od_requested, .func (PySem.W.fnOf "requested" "requested" (defArgs s_requested) (defBody s_requested) (defScope s_requested) .none kV_requested dc_requested pm_requested an_requested cd_requested ct_requested), sl_requested⟩)
    (c_requested : PySem.W.codeIn K cd_requested "requested" = true)
    (k_requested : PySem.W.keepIn K (.ref f_requested) = true)
    (a_asked : PySem.W.nsIn K mainGlobals "asked" = some (some (.ref f_asked)))
    (l_asked : K.lookup f_asked = some ⟨oc_asked, od_asked, .func (PySem.W.fnOf "asked" "asked" (defArgs s_asked) (defBody s_asked) (defScope s_asked) .none kV_asked dc_asked pm_asked an_asked cd_asked ct_asked), sl_asked⟩)
    (c_asked : PySem.W.codeIn K cd_asked "asked" = true)
    (k_asked : PySem.W.keepIn K (.ref f_asked) = true)
    (a_entry_met : PySem.W.nsIn K mainGlobals "entry_met" = some (some (.ref f_entry_met)))
    (l_entry_met : K.lookup f_entry_met = some ⟨oc_entry_met, od_entry_met, .func (PySem.W.fnOf "entry_met" "entry_met" (defArgs s_entry_met) (defBody s_entry_met) (defScope s_entry_met) .none kV_entry_met dc_entry_met pm_entry_met an_entry_met cd_entry_met ct_entry_met), sl_entry_met⟩)
    (c_entry_met : PySem.W.codeIn K cd_entry_met "entry_met" = true)
    (k_entry_met : PySem.W.keepIn K (.ref f_entry_met) = true)
    (a_fixed_answer : PySem.W.nsIn K mainGlobals "fixed_answer" = some (some (.ref f_fixed_answer)))
    (l_fixed_answer : K.lookup f_fixed_answer = some ⟨oc_fixed_answer, od_fixed_answer, .func (PySem.W.fnOf "fixed_answer" "fixed_answer" (defArgs s_fixed_answer) (defBody s_fixed_answer) (defScope s_fixed_answer) .none kV_fixed_answer dc_fixed_answer pm_fixed_answer an_fixed_answer cd_fixed_answer ct_fixed_answer), sl_fixed_answer⟩)
    (c_fixed_answer : PySem.W.codeIn K cd_fixed_answer "fixed_answer" = true)
    (k_fixed_answer : PySem.W.keepIn K (.ref f_fixed_answer) = true)
    (a_older_values : PySem.W.nsIn K mainGlobals "older_values" = some (some (.ref f_older_values)))
    (l_older_values : K.lookup f_older_values = some ⟨oc_older_values, od_older_values, .func (PySem.W.fnOf "older_values" "older_values" (defArgs s_older_values) (defBody s_older_values) (defScope s_older_values) .none kV_older_values dc_older_values pm_older_values an_older_values cd_older_values ct_older_values), sl_older_values⟩)
    (c_older_values : PySem.W.codeIn K cd_older_values "older_values" = true)
    (k_older_values : PySem.W.keepIn K (.ref f_older_values) = true)
    (a_value_read : PySem.W.nsIn K mainGlobals "value_read" = some (some (.ref f_value_read)))
    (l_value_read : K.lookup f_value_read = some ⟨oc_value_read, od_value_read, .func (PySem.W.fnOf "value_read" "value_read" (defArgs s_value_read) (defBody s_value_read) (defScope s_value_read) .none kV_value_read dc_value_read pm_value_read an_value_read cd_value_read ct_value_read), sl_value_read⟩)
    (c_value_read : PySem.W.codeIn K cd_value_read "value_read" = true)
    (k_value_read : PySem.W.keepIn K (.ref f_value_read) = true)
    (a_binds : PySem.W.nsIn K mainGlobals "binds" = some (some (.ref f_binds)))
    (l_binds : K.lookup f_binds = some ⟨oc_binds, od_binds, .func (PySem.W.fnOf "binds" "binds" (defArgs s_binds) (defBody s_binds) (defScope s_binds) .none kV_binds dc_binds pm_binds an_binds cd_binds ct_binds), sl_binds⟩)
    (c_binds : PySem.W.codeIn K cd_binds "binds" = true)
    (k_binds : PySem.W.keepIn K (.ref f_binds) = true)
    (a_with_bond : PySem.W.nsIn K mainGlobals "with_bond" = some (some (.ref f_with_bond)))
    (l_with_bond : K.lookup f_with_bond = some ⟨oc_with_bond, od_with_bond, .func (PySem.W.fnOf "with_bond" "with_bond" (defArgs s_with_bond) (defBody s_with_bond) (defScope s_with_bond) .none kV_with_bond dc_with_bond pm_with_bond an_with_bond cd_with_bond ct_with_bond), sl_with_bond⟩)
    (c_with_bond : PySem.W.codeIn K cd_with_bond "with_bond" = true)
    (k_with_bond : PySem.W.keepIn K (.ref f_with_bond) = true)
    (a_with_reader : PySem.W.nsIn K mainGlobals "with_reader" = some (some (.ref f_with_reader)))
    (l_with_reader : K.lookup f_with_reader = some ⟨oc_with_reader, od_with_reader, .func (PySem.W.fnOf "with_reader" "with_reader" (defArgs s_with_reader) (defBody s_with_reader) (defScope s_with_reader) .none kV_with_reader dc_with_reader pm_with_reader an_with_reader cd_with_reader ct_with_reader), sl_with_reader⟩)
    (c_with_reader : PySem.W.codeIn K cd_with_reader "with_reader" = true)
    (k_with_reader : PySem.W.keepIn K (.ref f_with_reader) = true)
    (a_with_item : PySem.W.nsIn K mainGlobals "with_item" = some (some (.ref f_with_item)))
    (l_with_item : K.lookup f_with_item = some ⟨oc_with_item, od_with_item, .func (PySem.W.fnOf "with_item" "with_item" (defArgs s_with_item) (defBody s_with_item) (defScope s_with_item) .none kV_with_item dc_with_item pm_with_item an_with_item cd_with_item ct_with_item), sl_with_item⟩)
    (c_with_item : PySem.W.codeIn K cd_with_item "with_item" = true)
    (k_with_item : PySem.W.keepIn K (.ref f_with_item) = true)
    (a_play : PySem.W.nsIn K mainGlobals "play" = some (some (.ref f_play)))
    (l_play : K.lookup f_play = some ⟨oc_play, od_play, .func (PySem.W.fnOf "play" "play" (defArgs s_play) (defBody s_play) (defScope s_play) .none kV_play dc_play pm_play an_play cd_play ct_play), sl_play⟩)
    (c_play : PySem.W.codeIn K cd_play "play" = true)
    (k_play : PySem.W.keepIn K (.ref f_play) = true)
    (a_traced : PySem.W.nsIn K mainGlobals "traced" = some (some (.ref f_traced)))
    (l_traced : K.lookup f_traced = some ⟨oc_traced, od_traced, .func (PySem.W.fnOf "traced" "traced" (defArgs s_traced) (defBody s_traced) (defScope s_traced) .none kV_traced dc_traced pm_traced an_traced cd_traced ct_traced), sl_traced⟩)
    (c_traced : PySem.W.codeIn K cd_traced "traced" = true)
    (k_traced : PySem.W.keepIn K (.ref f_traced) = true)
    (a_check_run : PySem.W.nsIn K mainGlobals "check_run" = some (some (.ref f_check_run)))
    (l_check_run : K.lookup f_check_run = some ⟨oc_check_run, od_check_run, .func (PySem.W.fnOf "check_run" "check_run" (defArgs s_check_run) (defBody s_check_run) (defScope s_check_run) .none kV_check_run dc_check_run pm_check_run an_check_run cd_check_run ct_check_run), sl_check_run⟩)
    (c_check_run : PySem.W.codeIn K cd_check_run "check_run" = true)
    (k_check_run : PySem.W.keepIn K (.ref f_check_run) = true)
    (a_is_step : PySem.W.nsIn K mainGlobals "is_step" = some (some (.ref f_is_step)))
    (l_is_step : K.lookup f_is_step = some ⟨oc_is_step, od_is_step, .func (PySem.W.fnOf "is_step" "is_step" (defArgs s_is_step) (defBody s_is_step) (defScope s_is_step) .none kV_is_step dc_is_step pm_is_step an_is_step cd_is_step ct_is_step), sl_is_step⟩)
    (c_is_step : PySem.W.codeIn K cd_is_step "is_step" = true)
    (k_is_step : PySem.W.keepIn K (.ref f_is_step) = true)
    (a_is_name : PySem.W.nsIn K mainGlobals "is_name" = some (some (.ref f_is_name)))
    (l_is_name : K.lookup f_is_name = some ⟨oc_is_name, od_is_name, .func (PySem.W.fnOf "is_name" "is_name" (defArgs s_is_name) (defBody s_is_name) (defScope s_is_name) .none kV_is_name dc_is_name pm_is_name an_is_name cd_is_name ct_is_name), sl_is_name⟩)
    (c_is_name : PySem.W.codeIn K cd_is_name "is_name" = true)
    (k_is_name : PySem.W.keepIn K (.ref f_is_name) = true)
    (a_answers_at : PySem.W.nsIn K mainGlobals "answers_at" = some (some (.ref f_answers_at)))
    (l_answers_at : K.lookup f_answers_at = some ⟨oc_answers_at, od_answers_at, .func (PySem.W.fnOf "answers_at" "answers_at" (defArgs s_answers_at) (defBody s_answers_at) (defScope s_answers_at) .none kV_answers_at dc_answers_at pm_answers_at an_answers_at cd_answers_at ct_answers_at), sl_answers_at⟩)
    (c_answers_at : PySem.W.codeIn K cd_answers_at "answers_at" = true)
    (k_answers_at : PySem.W.keepIn K (.ref f_answers_at) = true)
    (a_check_answer : PySem.W.nsIn K mainGlobals "check_answer" = some (some (.ref f_check_answer)))
    (l_check_answer : K.lookup f_check_answer = some ⟨oc_check_answer, od_check_answer, .func (PySem.W.fnOf "check_answer" "check_answer" (defArgs s_check_answer) (defBody s_check_answer) (defScope s_check_answer) .none kV_check_answer dc_check_answer pm_check_answer an_check_answer cd_check_answer ct_check_answer), sl_check_answer⟩)
    (c_check_answer : PySem.W.codeIn K cd_check_answer "check_answer" = true)
    (k_check_answer : PySem.W.keepIn K (.ref f_check_answer) = true)
    (a_is_keep : PySem.W.nsIn K mainGlobals "is_keep" = some (some (.ref f_is_keep)))
    (l_is_keep : K.lookup f_is_keep = some ⟨oc_is_keep, od_is_keep, .func (PySem.W.fnOf "is_keep" "is_keep" (defArgs s_is_keep) (defBody s_is_keep) (defScope s_is_keep) .none kV_is_keep dc_is_keep pm_is_keep an_is_keep cd_is_keep ct_is_keep), sl_is_keep⟩)
    (c_is_keep : PySem.W.codeIn K cd_is_keep "is_keep" = true)
    (k_is_keep : PySem.W.keepIn K (.ref f_is_keep) = true)
    (a_law_cell : PySem.W.nsIn K mainGlobals "_law_cell" = some (some (.ref f_law_cell)))
    (l_law_cell : K.lookup f_law_cell = some ⟨oc_law_cell, od_law_cell, .func (PySem.W.fnOf "_law_cell" "_law_cell" (defArgs s_law_cell) (defBody s_law_cell) (defScope s_law_cell) .none kV_law_cell dc_law_cell pm_law_cell an_law_cell cd_law_cell ct_law_cell), sl_law_cell⟩)
    (c_law_cell : PySem.W.codeIn K cd_law_cell "_law_cell" = true)
    (k_law_cell : PySem.W.keepIn K (.ref f_law_cell) = true)
    (a_law_row : PySem.W.nsIn K mainGlobals "_law_row" = some (some (.ref f_law_row)))
    (l_law_row : K.lookup f_law_row = some ⟨oc_law_row, od_law_row, .func (PySem.W.fnOf "_law_row" "_law_row" (defArgs s_law_row) (defBody s_law_row) (defScope s_law_row) .none kV_law_row dc_law_row pm_law_row an_law_row cd_law_row ct_law_row), sl_law_row⟩)
    (c_law_row : PySem.W.codeIn K cd_law_row "_law_row" = true)
    (k_law_row : PySem.W.keepIn K (.ref f_law_row) = true)
    (a_law_entries : PySem.W.nsIn K mainGlobals "_law_entries" = some (some (.ref f_law_entries)))
    (l_law_entries : K.lookup f_law_entries = some ⟨oc_law_entries, od_law_entries, .func (PySem.W.fnOf "_law_entries" "_law_entries" (defArgs s_law_entries) (defBody s_law_entries) (defScope s_law_entries) .none kV_law_entries dc_law_entries pm_law_entries an_law_entries cd_law_entries ct_law_entries), sl_law_entries⟩)
    (c_law_entries : PySem.W.codeIn K cd_law_entries "_law_entries" = true)
    (k_law_entries : PySem.W.keepIn K (.ref f_law_entries) = true)
    (a_law_choices : PySem.W.nsIn K mainGlobals "_law_choices" = some (some (.ref f_law_choices)))
    (l_law_choices : K.lookup f_law_choices = some ⟨oc_law_choices, od_law_choices, .func (PySem.W.fnOf "_law_choices" "_law_choices" (defArgs s_law_choices) (defBody s_law_choices) (defScope s_law_choices) .none kV_law_choices dc_law_choices pm_law_choices an_law_choices cd_law_choices ct_law_choices), sl_law_choices⟩)
    (c_law_choices : PySem.W.codeIn K cd_law_choices "_law_choices" = true)
    (k_law_choices : PySem.W.keepIn K (.ref f_law_choices) = true)
    (a_law_names : PySem.W.nsIn K mainGlobals "_law_names" = some (some (.ref f_law_names)))
    (l_law_names : K.lookup f_law_names = some ⟨oc_law_names, od_law_names, .func (PySem.W.fnOf "_law_names" "_law_names" (defArgs s_law_names) (defBody s_law_names) (defScope s_law_names) .none kV_law_names dc_law_names pm_law_names an_law_names cd_law_names ct_law_names), sl_law_names⟩)
    (c_law_names : PySem.W.codeIn K cd_law_names "_law_names" = true)
    (k_law_names : PySem.W.keepIn K (.ref f_law_names) = true)
    (a_law_ints : PySem.W.nsIn K mainGlobals "_law_ints" = some (some (.ref f_law_ints)))
    (l_law_ints : K.lookup f_law_ints = some ⟨oc_law_ints, od_law_ints, .func (PySem.W.fnOf "_law_ints" "_law_ints" (defArgs s_law_ints) (defBody s_law_ints) (defScope s_law_ints) .none kV_law_ints dc_law_ints pm_law_ints an_law_ints cd_law_ints ct_law_ints), sl_law_ints⟩)
    (c_law_ints : PySem.W.codeIn K cd_law_ints "_law_ints" = true)
    (k_law_ints : PySem.W.keepIn K (.ref f_law_ints) = true)
    (a_law_outcome : PySem.W.nsIn K mainGlobals "_law_outcome" = some (some (.ref f_law_outcome)))
    (l_law_outcome : K.lookup f_law_outcome = some ⟨oc_law_outcome, od_law_outcome, .func (PySem.W.fnOf "_law_outcome" "_law_outcome" (defArgs s_law_outcome) (defBody s_law_outcome) (defScope s_law_outcome) .none kV_law_outcome dc_law_outcome pm_law_outcome an_law_outcome cd_law_outcome ct_law_outcome), sl_law_outcome⟩)
    (c_law_outcome : PySem.W.codeIn K cd_law_outcome "_law_outcome" = true)
    (k_law_outcome : PySem.W.keepIn K (.ref f_law_outcome) = true)
    (a_law_ways : PySem.W.nsIn K mainGlobals "_law_ways" = some (some (.ref f_law_ways)))
    (l_law_ways : K.lookup f_law_ways = some ⟨oc_law_ways, od_law_ways, .func (PySem.W.fnOf "_law_ways" "_law_ways" (defArgs s_law_ways) (defBody s_law_ways) (defScope s_law_ways) .none kV_law_ways dc_law_ways pm_law_ways an_law_ways cd_law_ways ct_law_ways), sl_law_ways⟩)
    (c_law_ways : PySem.W.codeIn K cd_law_ways "_law_ways" = true)
    (k_law_ways : PySem.W.keepIn K (.ref f_law_ways) = true)
    (a_law_scaled : PySem.W.nsIn K mainGlobals "_law_scaled" = some (some (.ref f_law_scaled)))
    (l_law_scaled : K.lookup f_law_scaled = some ⟨oc_law_scaled, od_law_scaled, .func (PySem.W.fnOf "_law_scaled" "_law_scaled" (defArgs s_law_scaled) (defBody s_law_scaled) (defScope s_law_scaled) .none kV_law_scaled dc_law_scaled pm_law_scaled an_law_scaled cd_law_scaled ct_law_scaled), sl_law_scaled⟩)
    (c_law_scaled : PySem.W.codeIn K cd_law_scaled "_law_scaled" = true)
    (k_law_scaled : PySem.W.keepIn K (.ref f_law_scaled) = true)
    (a_law_due : PySem.W.nsIn K mainGlobals "_law_due" = some (some (.ref f_law_due)))
    (l_law_due : K.lookup f_law_due = some ⟨oc_law_due, od_law_due, .func (PySem.W.fnOf "_law_due" "_law_due" (defArgs s_law_due) (defBody s_law_due) (defScope s_law_due) .none kV_law_due dc_law_due pm_law_due an_law_due cd_law_due ct_law_due), sl_law_due⟩)
    (c_law_due : PySem.W.codeIn K cd_law_due "_law_due" = true)
    (k_law_due : PySem.W.keepIn K (.ref f_law_due) = true)
    (a_law : PySem.W.nsIn K mainGlobals "law" = some (some (.ref f_law)))
    (l_law : K.lookup f_law = some ⟨oc_law, od_law, .func (PySem.W.fnOf "law" "law" (defArgs s_law) (defBody s_law) (defScope s_law) .none kV_law dc_law pm_law an_law cd_law ct_law), sl_law⟩)
    (c_law : PySem.W.codeIn K cd_law "law" = true)
    (k_law : PySem.W.keepIn K (.ref f_law) = true)
    (gv_GREATEST : PySem.W.nsIn K mainGlobals "GREATEST" = some (some (.int 1000000000000000000000000000000 tk_GREATEST)))
    (gv_SIGNS : PySem.W.nsIn K mainGlobals "SIGNS" = some (some (.str "abcdefghijklmnopqrstuvwxyz0123456789" tk_SIGNS)))
    (gv_LONGEST_NAME : PySem.W.nsIn K mainGlobals "LONGEST_NAME" = some (some (.int 8 tk_LONGEST_NAME)))
    (gv_ENTRIES : PySem.W.nsIn K mainGlobals "ENTRIES" = some (some (.ref o_ENTRIES)))
    (tl_ENTRIES : K.lookup o_ENTRIES = some ⟨.type "tuple", td_ENTRIES, .seq #[.str "read late" u0_ENTRIES, .str "read under" u1_ENTRIES, .str "read below" u2_ENTRIES, .str "read above" u3_ENTRIES, .str "write late" u4_ENTRIES, .str "write under" u5_ENTRIES, .str "write below" u6_ENTRIES, .str "write above" u7_ENTRIES, .str "write free passed" u8_ENTRIES, .str "write own passed" u9_ENTRIES, .str "write late passed" u10_ENTRIES, .str "write under passed" u11_ENTRIES, .str "write below passed" u12_ENTRIES, .str "write above passed" u13_ENTRIES] tn_ENTRIES, ts_ENTRIES⟩)
    (gv_ANSWERS : PySem.W.nsIn K mainGlobals "ANSWERS" = some (some (.ref o_ANSWERS)))
    (dl_ANSWERS : K.lookup o_ANSWERS = some ⟨.type "dict", none, .dict #[⟨h0_ANSWERS, .str "read late" tk0_ANSWERS, .ref o0_ANSWERS⟩, ⟨h1_ANSWERS, .str "read under" tk1_ANSWERS, .ref o1_ANSWERS⟩, ⟨h2_ANSWERS, .str "read below" tk2_ANSWERS, .ref o2_ANSWERS⟩, ⟨h3_ANSWERS, .str "read above" tk3_ANSWERS, .ref o3_ANSWERS⟩, ⟨h4_ANSWERS, .str "write late" tk4_ANSWERS, .ref o4_ANSWERS⟩, ⟨h5_ANSWERS, .str "write under" tk5_ANSWERS, .ref o5_ANSWERS⟩, ⟨h6_ANSWERS, .str "write below" tk6_ANSWERS, .ref o6_ANSWERS⟩, ⟨h7_ANSWERS, .str "write above" tk7_ANSWERS, .ref o7_ANSWERS⟩, ⟨h8_ANSWERS, .str "write free passed" tk8_ANSWERS, .ref o8_ANSWERS⟩, ⟨h9_ANSWERS, .str "write own passed" tk9_ANSWERS, .ref o9_ANSWERS⟩, ⟨h10_ANSWERS, .str "write late passed" tk10_ANSWERS, .ref o10_ANSWERS⟩, ⟨h11_ANSWERS, .str "write under passed" tk11_ANSWERS, .ref o11_ANSWERS⟩, ⟨h12_ANSWERS, .str "write below passed" tk12_ANSWERS, .ref o12_ANSWERS⟩, ⟨h13_ANSWERS, .str "write above passed" tk13_ANSWERS, .ref o13_ANSWERS⟩] ep_ANSWERS, #[]⟩)
    (dk_ANSWERS : PySem.W.KeysLit w.params [⟨h0_ANSWERS, .str "read late" tk0_ANSWERS, .ref o0_ANSWERS⟩, ⟨h1_ANSWERS, .str "read under" tk1_ANSWERS, .ref o1_ANSWERS⟩, ⟨h2_ANSWERS, .str "read below" tk2_ANSWERS, .ref o2_ANSWERS⟩, ⟨h3_ANSWERS, .str "read above" tk3_ANSWERS, .ref o3_ANSWERS⟩, ⟨h4_ANSWERS, .str "write late" tk4_ANSWERS, .ref o4_ANSWERS⟩, ⟨h5_ANSWERS, .str "write under" tk5_ANSWERS, .ref o5_ANSWERS⟩, ⟨h6_ANSWERS, .str "write below" tk6_ANSWERS, .ref o6_ANSWERS⟩, ⟨h7_ANSWERS, .str "write above" tk7_ANSWERS, .ref o7_ANSWERS⟩, ⟨h8_ANSWERS, .str "write free passed" tk8_ANSWERS, .ref o8_ANSWERS⟩, ⟨h9_ANSWERS, .str "write own passed" tk9_ANSWERS, .ref o9_ANSWERS⟩, ⟨h10_ANSWERS, .str "write late passed" tk10_ANSWERS, .ref o10_ANSWERS⟩, ⟨h11_ANSWERS, .str "write under passed" tk11_ANSWERS, .ref o11_ANSWERS⟩, ⟨h12_ANSWERS, .str "write below passed" tk12_ANSWERS, .ref o12_ANSWERS⟩, ⟨h13_ANSWERS, .str "write above passed" tk13_ANSWERS, .ref o13_ANSWERS⟩])
    (ds_ANSWERS : (o_ANSWERS == sysModules) = false)
    (tl_0_ANSWERS : K.lookup o0_ANSWERS = some ⟨.type "tuple", td_0_ANSWERS, .seq #[.str "last" u0_0_ANSWERS, .str "old" u1_0_ANSWERS, .str "abort" u2_0_ANSWERS] tn_0_ANSWERS, ts_0_ANSWERS⟩)
    (tl_1_ANSWERS : K.lookup o1_ANSWERS = some ⟨.type "tuple", td_1_ANSWERS, .seq #[.str "last" u0_1_ANSWERS, .str "old" u1_1_ANSWERS, .str "open" u2_1_ANSWERS, .str "wait" u3_1_ANSWERS, .str "abort" u4_1_ANSWERS] tn_1_ANSWERS, ts_1_ANSWERS⟩)
    (tl_2_ANSWERS : K.lookup o2_ANSWERS = some ⟨.type "tuple", td_2_ANSWERS, .seq #[.str "last" u0_2_ANSWERS, .str "open" u1_2_ANSWERS, .str "wait" u2_2_ANSWERS, .str "abort" u3_2_ANSWERS] tn_2_ANSWERS, ts_2_ANSWERS⟩)
    (tl_3_ANSWERS : K.lookup o3_ANSWERS = some ⟨.type "tuple", td_3_ANSWERS, .seq #[.str "last" u0_3_ANSWERS, .str "open" u1_3_ANSWERS, .str "wait" u2_3_ANSWERS, .str "abort" u3_3_ANSWERS] tn_3_ANSWERS, ts_3_ANSWERS⟩)
    (tl_4_ANSWERS : K.lookup o4_ANSWERS = some ⟨.type "tuple", td_4_ANSWERS, .seq #[.str "skip" u0_4_ANSWERS, .str "abort" u1_4_ANSWERS] tn_4_ANSWERS, ts_4_ANSWERS⟩)
    (tl_5_ANSWERS : K.lookup o5_ANSWERS = some ⟨.type "tuple", td_5_ANSWERS, .seq #[.str "skip" u0_5_ANSWERS, .str "wait" u1_5_ANSWERS, .str "wound" u2_5_ANSWERS, .str "abort" u3_5_ANSWERS] tn_5_ANSWERS, ts_5_ANSWERS⟩)
    (tl_6_ANSWERS : K.lookup o6_ANSWERS = some ⟨.type "tuple", td_6_ANSWERS, .seq #[.str "skip" u0_6_ANSWERS, .str "wait" u1_6_ANSWERS, .str "wound" u2_6_ANSWERS, .str "abort" u3_6_ANSWERS] tn_6_ANSWERS, ts_6_ANSWERS⟩)
    (tl_7_ANSWERS : K.lookup o7_ANSWERS = some ⟨.type "tuple", td_7_ANSWERS, .seq #[.str "skip" u0_7_ANSWERS, .str "wait" u1_7_ANSWERS, .str "wound" u2_7_ANSWERS, .str "abort" u3_7_ANSWERS] tn_7_ANSWERS, ts_7_ANSWERS⟩)
    (tl_8_ANSWERS : K.lookup o8_ANSWERS = some ⟨.type "tuple", td_8_ANSWERS, .seq #[.str "put" u0_8_ANSWERS, .str "abort" u1_8_ANSWERS] tn_8_ANSWERS, ts_8_ANSWERS⟩)
    (tl_9_ANSWERS : K.lookup o9_ANSWERS = some ⟨.type "tuple", td_9_ANSWERS, .seq #[.str "put" u0_9_ANSWERS, .str "abort" u1_9_ANSWERS] tn_9_ANSWERS, ts_9_ANSWERS⟩)
    (tl_10_ANSWERS : K.lookup o10_ANSWERS = some ⟨.type "tuple", td_10_ANSWERS, .seq #[.str "skip" u0_10_ANSWERS, .str "abort" u1_10_ANSWERS] tn_10_ANSWERS, ts_10_ANSWERS⟩)
    (tl_11_ANSWERS : K.lookup o11_ANSWERS = some ⟨.type "tuple", td_11_ANSWERS, .seq #[.str "skip" u0_11_ANSWERS, .str "wait" u1_11_ANSWERS, .str "wound" u2_11_ANSWERS, .str "abort" u3_11_ANSWERS] tn_11_ANSWERS, ts_11_ANSWERS⟩)
    (tl_12_ANSWERS : K.lookup o12_ANSWERS = some ⟨.type "tuple", td_12_ANSWERS, .seq #[.str "skip" u0_12_ANSWERS, .str "wait" u1_12_ANSWERS, .str "wound" u2_12_ANSWERS, .str "abort" u3_12_ANSWERS] tn_12_ANSWERS, ts_12_ANSWERS⟩)
    (tl_13_ANSWERS : K.lookup o13_ANSWERS = some ⟨.type "tuple", td_13_ANSWERS, .seq #[.str "skip" u0_13_ANSWERS, .str "wait" u1_13_ANSWERS, .str "wound" u2_13_ANSWERS, .str "abort" u3_13_ANSWERS] tn_13_ANSWERS, ts_13_ANSWERS⟩)
    (dn0_ANSWERS : PySem.W.nsIn K o_ANSWERS "read late" = some (some (.ref o0_ANSWERS)))
    (dn1_ANSWERS : PySem.W.nsIn K o_ANSWERS "read under" = some (some (.ref o1_ANSWERS)))
    (dn2_ANSWERS : PySem.W.nsIn K o_ANSWERS "read below" = some (some (.ref o2_ANSWERS)))
    (dn3_ANSWERS : PySem.W.nsIn K o_ANSWERS "read above" = some (some (.ref o3_ANSWERS)))
    (dn4_ANSWERS : PySem.W.nsIn K o_ANSWERS "write late" = some (some (.ref o4_ANSWERS)))
    (dn5_ANSWERS : PySem.W.nsIn K o_ANSWERS "write under" = some (some (.ref o5_ANSWERS)))
    (dn6_ANSWERS : PySem.W.nsIn K o_ANSWERS "write below" = some (some (.ref o6_ANSWERS)))
    (dn7_ANSWERS : PySem.W.nsIn K o_ANSWERS "write above" = some (some (.ref o7_ANSWERS)))
    (dn8_ANSWERS : PySem.W.nsIn K o_ANSWERS "write free passed" = some (some (.ref o8_ANSWERS)))
    (dn9_ANSWERS : PySem.W.nsIn K o_ANSWERS "write own passed" = some (some (.ref o9_ANSWERS)))
    (dn10_ANSWERS : PySem.W.nsIn K o_ANSWERS "write late passed" = some (some (.ref o10_ANSWERS)))
    (dn11_ANSWERS : PySem.W.nsIn K o_ANSWERS "write under passed" = some (some (.ref o11_ANSWERS)))
    (dn12_ANSWERS : PySem.W.nsIn K o_ANSWERS "write below passed" = some (some (.ref o12_ANSWERS)))
    (dn13_ANSWERS : PySem.W.nsIn K o_ANSWERS "write above passed" = some (some (.ref o13_ANSWERS)))
    (gv_MOST_KEPT : PySem.W.nsIn K mainGlobals "MOST_KEPT" = some (some (.int 20 tk_MOST_KEPT)))
    (n_all : PySem.W.nsIn K mainGlobals "all" = some none)
    (n_bool : PySem.W.nsIn K mainGlobals "bool" = some none)
    (n_dict : PySem.W.nsIn K mainGlobals "dict" = some none)
    (n_enumerate : PySem.W.nsIn K mainGlobals "enumerate" = some none)
    (n_int : PySem.W.nsIn K mainGlobals "int" = some none)
    (n_isinstance : PySem.W.nsIn K mainGlobals "isinstance" = some none)
    (n_len : PySem.W.nsIn K mainGlobals "len" = some none)
    (n_list : PySem.W.nsIn K mainGlobals "list" = some none)
    (n_range : PySem.W.nsIn K mainGlobals "range" = some none)
    (n_sorted : PySem.W.nsIn K mainGlobals "sorted" = some none)
    (n_str : PySem.W.nsIn K mainGlobals "str" = some none)
    (n_super : PySem.W.nsIn K mainGlobals "super" = some none)
    (n_tuple : PySem.W.nsIn K mainGlobals "tuple" = some none)
    : ∃ T : Txt w K mg, T.f_law = fa := by
  refine ⟨{
    isg := ⟨z_hn, z_ht⟩,
    c_StampError := c_StampError,
    g_StampError := PySem.W.mg_of X G gc_StampError,
    k_StampError := kc_StampError,
    c_BadEntry := c_BadEntry,
    g_BadEntry := PySem.W.mg_of X G gc_BadEntry,
    k_BadEntry := kc_BadEntry,
    c_BadAnswer := c_BadAnswer,
    g_BadAnswer := PySem.W.mg_of X G gc_BadAnswer,
    k_BadAnswer := kc_BadAnswer,
    c_BadSetting := c_BadSetting,
    g_BadSetting := PySem.W.mg_of X G gc_BadSetting,
    k_BadSetting := kc_BadSetting,
    c_BadStep := c_BadStep,
    g_BadStep := PySem.W.mg_of X G gc_BadStep,
    k_BadStep := kc_BadStep,
    c_Item := c_Item,
    g_Item := PySem.W.mg_of X G gc_Item,
    k_Item := kc_Item,
    c_State := c_State,
    g_State := PySem.W.mg_of X G gc_State,
    k_State := kc_State,
    c_Book := c_Book,
    g_Book := PySem.W.mg_of X G gc_Book,
    k_Book := kc_Book,
    oex_StampError := ⟨⟨_, _, _, _, _, _, _, _, _, _, _, _, _, _, _, xl_StampError, rfl⟩, sa_StampError, xb_StampError, xt_StampError, kc_StampError⟩,
    excc_StampError := ⟨ga_StampError, gg_StampError, xb_StampError, hd_StampError, ha_StampError, z_hn, z_ht, hm_StampError⟩,
    xfc_StampError := ⟨ga_StampError, gg_StampError, xb_StampError, hd_StampError⟩,
    exm_StampError_StampError := PySem.W.exm_ref xb_StampError hd_StampError xt_StampError sb_StampError_StampError,
    kit_StampError_StampError := ko_StampError_StampError,
    exm_StampError_BadEntry := PySem.W.exm_ref xb_BadEntry hd_BadEntry xt_BadEntry sb_StampError_BadEntry,
    kit_StampError_BadEntry := ko_StampError_BadEntry,
    exm_StampError_BadAnswer := PySem.W.exm_ref xb_BadAnswer hd_BadAnswer xt_BadAnswer sb_StampError_BadAnswer,
    kit_StampError_BadAnswer := ko_StampError_BadAnswer,
    exm_StampError_BadSetting := PySem.W.exm_ref xb_BadSetting hd_BadSetting xt_BadSetting sb_StampError_BadSetting,
    kit_StampError_BadSetting := ko_StampError_BadSetting,
    exm_StampError_BadStep := PySem.W.exm_ref xb_BadStep hd_BadStep xt_BadStep sb_StampError_BadStep,
    kit_StampError_BadStep := ko_StampError_BadStep,
    kit_StampError_VE := kv_StampError,
    oex_BadEntry := ⟨⟨_, _, _, _, _, _, _, _, _, _, _, _, _, _, _, xl_BadEntry, rfl⟩, sa_BadEntry, xb_BadEntry, xt_BadEntry, kc_BadEntry⟩,
    excc_BadEntry := ⟨ga_BadEntry, gg_BadEntry, xb_BadEntry, hd_BadEntry, ha_BadEntry, z_hn, z_ht, hm_BadEntry⟩,
    xfc_BadEntry := ⟨ga_BadEntry, gg_BadEntry, xb_BadEntry, hd_BadEntry⟩,
    exm_BadEntry_StampError := PySem.W.exm_ref xb_StampError hd_StampError xt_StampError sb_BadEntry_StampError,
    kit_BadEntry_StampError := ko_BadEntry_StampError,
    exm_BadEntry_BadEntry := PySem.W.exm_ref xb_BadEntry hd_BadEntry xt_BadEntry sb_BadEntry_BadEntry,
    kit_BadEntry_BadEntry := ko_BadEntry_BadEntry,
    exm_BadEntry_BadAnswer := PySem.W.exm_ref xb_BadAnswer hd_BadAnswer xt_BadAnswer sb_BadEntry_BadAnswer,
    kit_BadEntry_BadAnswer := ko_BadEntry_BadAnswer,
    exm_BadEntry_BadSetting := PySem.W.exm_ref xb_BadSetting hd_BadSetting xt_BadSetting sb_BadEntry_BadSetting,
    kit_BadEntry_BadSetting := ko_BadEntry_BadSetting,
    exm_BadEntry_BadStep := PySem.W.exm_ref xb_BadStep hd_BadStep xt_BadStep sb_BadEntry_BadStep,
    kit_BadEntry_BadStep := ko_BadEntry_BadStep,
    kit_BadEntry_VE := kv_BadEntry,
    na_BadEntry_entry := na_BadEntry_entry,
    oex_BadAnswer := ⟨⟨_, _, _, _, _, _, _, _, _, _, _, _, _, _, _, xl_BadAnswer, rfl⟩, sa_BadAnswer, xb_BadAnswer, xt_BadAnswer, kc_BadAnswer⟩,
    excc_BadAnswer := ⟨ga_BadAnswer, gg_BadAnswer, xb_BadAnswer, hd_BadAnswer, ha_BadAnswer, z_hn, z_ht, hm_BadAnswer⟩,
    xfc_BadAnswer := ⟨ga_BadAnswer, gg_BadAnswer, xb_BadAnswer, hd_BadAnswer⟩,
    exm_BadAnswer_StampError := PySem.W.exm_ref xb_StampError hd_StampError xt_StampError sb_BadAnswer_StampError,
    kit_BadAnswer_StampError := ko_BadAnswer_StampError,
    exm_BadAnswer_BadEntry := PySem.W.exm_ref xb_BadEntry hd_BadEntry xt_BadEntry sb_BadAnswer_BadEntry,
    kit_BadAnswer_BadEntry := ko_BadAnswer_BadEntry,
    exm_BadAnswer_BadAnswer := PySem.W.exm_ref xb_BadAnswer hd_BadAnswer xt_BadAnswer sb_BadAnswer_BadAnswer,
    kit_BadAnswer_BadAnswer := ko_BadAnswer_BadAnswer,
    exm_BadAnswer_BadSetting := PySem.W.exm_ref xb_BadSetting hd_BadSetting xt_BadSetting sb_BadAnswer_BadSetting,
    kit_BadAnswer_BadSetting := ko_BadAnswer_BadSetting,
    exm_BadAnswer_BadStep := PySem.W.exm_ref xb_BadStep hd_BadStep xt_BadStep sb_BadAnswer_BadStep,
    kit_BadAnswer_BadStep := ko_BadAnswer_BadStep,
    kit_BadAnswer_VE := kv_BadAnswer,
    na_BadAnswer_answer := na_BadAnswer_answer,
    na_BadAnswer_entry := na_BadAnswer_entry,
    oex_BadSetting := ⟨⟨_, _, _, _, _, _, _, _, _, _, _, _, _, _, _, xl_BadSetting, rfl⟩, sa_BadSetting, xb_BadSetting, xt_BadSetting, kc_BadSetting⟩,
    excc_BadSetting := ⟨ga_BadSetting, gg_BadSetting, xb_BadSetting, hd_BadSetting, ha_BadSetting, z_hn, z_ht, hm_BadSetting⟩,
    xfc_BadSetting := ⟨ga_BadSetting, gg_BadSetting, xb_BadSetting, hd_BadSetting⟩,
    exm_BadSetting_StampError := PySem.W.exm_ref xb_StampError hd_StampError xt_StampError sb_BadSetting_StampError,
    kit_BadSetting_StampError := ko_BadSetting_StampError,
    exm_BadSetting_BadEntry := PySem.W.exm_ref xb_BadEntry hd_BadEntry xt_BadEntry sb_BadSetting_BadEntry,
    kit_BadSetting_BadEntry := ko_BadSetting_BadEntry,
    exm_BadSetting_BadAnswer := PySem.W.exm_ref xb_BadAnswer hd_BadAnswer xt_BadAnswer sb_BadSetting_BadAnswer,
    kit_BadSetting_BadAnswer := ko_BadSetting_BadAnswer,
    exm_BadSetting_BadSetting := PySem.W.exm_ref xb_BadSetting hd_BadSetting xt_BadSetting sb_BadSetting_BadSetting,
    kit_BadSetting_BadSetting := ko_BadSetting_BadSetting,
    exm_BadSetting_BadStep := PySem.W.exm_ref xb_BadStep hd_BadStep xt_BadStep sb_BadSetting_BadStep,
    kit_BadSetting_BadStep := ko_BadSetting_BadStep,
    kit_BadSetting_VE := kv_BadSetting,
    na_BadSetting_given := na_BadSetting_given,
    oex_BadStep := ⟨⟨_, _, _, _, _, _, _, _, _, _, _, _, _, _, _, xl_BadStep, rfl⟩, sa_BadStep, xb_BadStep, xt_BadStep, kc_BadStep⟩,
    excc_BadStep := ⟨ga_BadStep, gg_BadStep, xb_BadStep, hd_BadStep, ha_BadStep, z_hn, z_ht, hm_BadStep⟩,
    xfc_BadStep := ⟨ga_BadStep, gg_BadStep, xb_BadStep, hd_BadStep⟩,
    exm_BadStep_StampError := PySem.W.exm_ref xb_StampError hd_StampError xt_StampError sb_BadStep_StampError,
    kit_BadStep_StampError := ko_BadStep_StampError,
    exm_BadStep_BadEntry := PySem.W.exm_ref xb_BadEntry hd_BadEntry xt_BadEntry sb_BadStep_BadEntry,
    kit_BadStep_BadEntry := ko_BadStep_BadEntry,
    exm_BadStep_BadAnswer := PySem.W.exm_ref xb_BadAnswer hd_BadAnswer xt_BadAnswer sb_BadStep_BadAnswer,
    kit_BadStep_BadAnswer := ko_BadStep_BadAnswer,
    exm_BadStep_BadSetting := PySem.W.exm_ref xb_BadSetting hd_BadSetting xt_BadSetting sb_BadStep_BadSetting,
    kit_BadStep_BadSetting := ko_BadStep_BadSetting,
    exm_BadStep_BadStep := PySem.W.exm_ref xb_BadStep hd_BadStep xt_BadStep sb_BadStep_BadStep,
    kit_BadStep_BadStep := ko_BadStep_BadStep,
    kit_BadStep_VE := kv_BadStep,
    na_BadStep_index := na_BadStep_index,
    cl_Item := ⟨pg_Item, hd_Item, po_Item, sa_Item⟩,
    isi_Item := ⟨ha_Item, hm_Item⟩,
    kit_Item := ko_Item,
    na_Item_holder := na_Item_holder,
    na_Item_kept := na_Item_kept,
    na_Item_reader := na_Item_reader,
    na_Item_value := na_Item_value,
    cl_State := ⟨pg_State, hd_State, po_State, sa_State⟩,
    isi_State := ⟨ha_State, hm_State⟩,
    kit_State := ko_State,
    na_State_bonds := na_State_bonds,
    na_State_over := na_State_over,
    na_State_store := na_State_store,
    cl_Book := ⟨pg_Book, hd_Book, po_Book, sa_Book⟩,
    isi_Book := ⟨ha_Book, hm_Book⟩,
    kit_Book := ko_Book,
    na_Book__answers := na_Book__answers,
    na_Book__ends := na_Book__ends,
    na_Book__keep := na_Book__keep,
    f_BadEntry_init := f_BadEntry_init,
    d_BadEntry_init := PySem.W.fnX "__init__" "BadEntry.__init__" (defArgs s_BadEntry_init) (defBody s_BadEntry_init) (defScope s_BadEntry_init) [(("__class__" : Str), cc_BadEntry_init)] .none kV_BadEntry_init dc_BadEntry_init pm_BadEntry_init an_BadEntry_init (.ref cdr_BadEntry_init) ct_BadEntry_init,
    cc_BadEntry_init := cc_BadEntry_init,
    cdr_BadEntry_init := cdr_BadEntry_init,
    S_BadEntry_init := ⟨⟨⟨_, _, _, _, _, _, _, _, _, _, _, _, _, _, _, xl_BadEntry, rfl⟩, sa_BadEntry, xb_BadEntry, xt_BadEntry, kc_BadEntry⟩, su_BadEntry_init, ve_BadEntry_init, md_BadEntry_init, z_th, PySem.W.mg_none_of X G z_su, rfl, rfl, ⟨_, _, _, _, _, _, _, _, rfl, l_BadEntry_init⟩, ⟨_, _, _, _, _, _, cv_BadEntry_init, cw_BadEntry_init, cx_BadEntry_init⟩, c_BadEntry_init, ⟨_, _, _, cl_BadEntry_init⟩, tp_BadEntry_init⟩,
    i_BadEntry_init := a_BadEntry_init,
    t_BadEntry_init := ti_BadEntry_init,
    f_BadAnswer_init := f_BadAnswer_init,
    d_BadAnswer_init := PySem.W.fnX "__init__" "BadAnswer.__init__" (defArgs s_BadAnswer_init) (defBody s_BadAnswer_init) (defScope s_BadAnswer_init) [(("__class__" : Str), cc_BadAnswer_init)] .none kV_BadAnswer_init dc_BadAnswer_init pm_BadAnswer_init an_BadAnswer_init (.ref cdr_BadAnswer_init) ct_BadAnswer_init,
    cc_BadAnswer_init := cc_BadAnswer_init,
    cdr_BadAnswer_init := cdr_BadAnswer_init,
    S_BadAnswer_init := ⟨⟨⟨_, _, _, _, _, _, _, _, _, _, _, _, _, _, _, xl_BadAnswer, rfl⟩, sa_BadAnswer, xb_BadAnswer, xt_BadAnswer, kc_BadAnswer⟩, su_BadAnswer_init, ve_BadAnswer_init, md_BadAnswer_init, z_th, PySem.W.mg_none_of X G z_su, rfl, rfl, ⟨_, _, _, _, _, _, _, _, rfl, l_BadAnswer_init⟩, ⟨_, _, _, _, _, _, cv_BadAnswer_init, cw_BadAnswer_init, cx_BadAnswer_init⟩, c_BadAnswer_init, ⟨_, _, _, cl_BadAnswer_init⟩, tp_BadAnswer_init⟩,
    i_BadAnswer_init := a_BadAnswer_init,
    t_BadAnswer_init := ti_BadAnswer_init,
    f_BadSetting_init := f_BadSetting_init,
    d_BadSetting_init := PySem.W.fnX "__init__" "BadSetting.__init__" (defArgs s_BadSetting_init) (defBody s_BadSetting_init) (defScope s_BadSetting_init) [(("__class__" : Str), cc_BadSetting_init)] .none kV_BadSetting_init dc_BadSetting_init pm_BadSetting_init an_BadSetting_init (.ref cdr_BadSetting_init) ct_BadSetting_init,
    cc_BadSetting_init := cc_BadSetting_init,
    cdr_BadSetting_init := cdr_BadSetting_init,
    S_BadSetting_init := ⟨⟨⟨_, _, _, _, _, _, _, _, _, _, _, _, _, _, _, xl_BadSetting, rfl⟩, sa_BadSetting, xb_BadSetting, xt_BadSetting, kc_BadSetting⟩, su_BadSetting_init, ve_BadSetting_init, md_BadSetting_init, z_th, PySem.W.mg_none_of X G z_su, rfl, rfl, ⟨_, _, _, _, _, _, _, _, rfl, l_BadSetting_init⟩, ⟨_, _, _, _, _, _, cv_BadSetting_init, cw_BadSetting_init, cx_BadSetting_init⟩, c_BadSetting_init, ⟨_, _, _, cl_BadSetting_init⟩, tp_BadSetting_init⟩,
    i_BadSetting_init := a_BadSetting_init,
    t_BadSetting_init := ti_BadSetting_init,
    f_BadStep_init := f_BadStep_init,
    d_BadStep_init := PySem.W.fnX "__init__" "BadStep.__init__" (defArgs s_BadStep_init) (defBody s_BadStep_init) (defScope s_BadStep_init) [(("__class__" : Str), cc_BadStep_init)] .none kV_BadStep_init dc_BadStep_init pm_BadStep_init an_BadStep_init (.ref cdr_BadStep_init) ct_BadStep_init,
    cc_BadStep_init := cc_BadStep_init,
    cdr_BadStep_init := cdr_BadStep_init,
    S_BadStep_init := ⟨⟨⟨_, _, _, _, _, _, _, _, _, _, _, _, _, _, _, xl_BadStep, rfl⟩, sa_BadStep, xb_BadStep, xt_BadStep, kc_BadStep⟩, su_BadStep_init, ve_BadStep_init, md_BadStep_init, z_th, PySem.W.mg_none_of X G z_su, rfl, rfl, ⟨_, _, _, _, _, _, _, _, rfl, l_BadStep_init⟩, ⟨_, _, _, _, _, _, cv_BadStep_init, cw_BadStep_init, cx_BadStep_init⟩, c_BadStep_init, ⟨_, _, _, cl_BadStep_init⟩, tp_BadStep_init⟩,
    i_BadStep_init := a_BadStep_init,
    t_BadStep_init := ti_BadStep_init,
    f_Item_init := f_Item_init,
    d_Item_init := PySem.W.fnOf "__init__" "Item.__init__" (defArgs s_Item_init) (defBody s_Item_init) (defScope s_Item_init) .none kV_Item_init dc_Item_init pm_Item_init an_Item_init cd_Item_init ct_Item_init,
    F_Item_init := fun_mk l_Item_init c_Item_init k_Item_init,
    m_Item_init := ⟨a_Item_init, fn_Item_init, k_Item_init⟩,
    mk_Item := ⟨mk_Item, a_Item_init, fn_Item_init, kc_Item⟩,
    f_State_init := f_State_init,
    d_State_init := PySem.W.fnOf "__init__" "State.__init__" (defArgs s_State_init) (defBody s_State_init) (defScope s_State_init) .none kV_State_init dc_State_init pm_State_init an_State_init cd_State_init ct_State_init,
    F_State_init := fun_mk l_State_init c_State_init k_State_init,
    m_State_init := ⟨a_State_init, fn_State_init, k_State_init⟩,
    mk_State := ⟨mk_State, a_State_init, fn_State_init, kc_State⟩,
    f_Book_init := f_Book_init,
    d_Book_init := PySem.W.fnOf "__init__" "Book.__init__" (defArgs s_Book_init) (defBody s_Book_init) (defScope s_Book_init) (.ref T_Book_init) (.ref KD_Book_init) dc_Book_init pm_Book_init an_Book_init cd_Book_init ct_Book_init,
    F_Book_init := ⟨⟨_, _, _, _, _, _, _, _, _, _, rfl, l_Book_init, c_Book_init, .inr ⟨by simp, _, _, [.none], _, rfl, T1_Book_init, rfl, .cons rfl (.nil)⟩, .inr ⟨_, rfl, fun q hq => by
      simp only [List.mem_cons, List.not_mem_nil, or_false] at hq
      rcases hq with rfl | rfl
      · exact ⟨_, kw0_Book_init, ⟨_, rfl⟩⟩
      · exact ⟨_, kw1_Book_init, ⟨_, rfl⟩⟩⟩⟩, k_Book_init⟩,
    m_Book_init := ⟨a_Book_init, fn_Book_init, k_Book_init⟩,
    mk_Book := ⟨mk_Book, a_Book_init, fn_Book_init, kc_Book⟩,
    f_Book_ends := f_Book_ends,
    pr_Book_ends := pr_Book_ends,
    p_Book_ends := ⟨a_Book_ends, pg_Book_ends, pt_Book_ends, ⟨_, pc_Book_ends⟩⟩,
    d_Book_ends := PySem.W.fnOf "ends" "Book.ends" (defArgs s_Book_ends) (defBody s_Book_ends) (defScope s_Book_ends) .none kV_Book_ends dc_Book_ends pm_Book_ends an_Book_ends cd_Book_ends ct_Book_ends,
    F_Book_ends := fun_mk l_Book_ends c_Book_ends k_Book_ends,
    f_Book_keep := f_Book_keep,
    pr_Book_keep := pr_Book_keep,
    p_Book_keep := ⟨a_Book_keep, pg_Book_keep, pt_Book_keep, ⟨_, pc_Book_keep⟩⟩,
    d_Book_keep := PySem.W.fnOf "keep" "Book.keep" (defArgs s_Book_keep) (defBody s_Book_keep) (defScope s_Book_keep) .none kV_Book_keep dc_Book_keep pm_Book_keep an_Book_keep cd_Book_keep ct_Book_keep,
    F_Book_keep := fun_mk l_Book_keep c_Book_keep k_Book_keep,
    f_Book_getitem := f_Book_getitem,
    d_Book_getitem := PySem.W.fnOf "__getitem__" "Book.__getitem__" (defArgs s_Book_getitem) (defBody s_Book_getitem) (defScope s_Book_getitem) .none kV_Book_getitem dc_Book_getitem pm_Book_getitem an_Book_getitem cd_Book_getitem ct_Book_getitem,
    F_Book_getitem := fun_mk l_Book_getitem c_Book_getitem k_Book_getitem,
    m_Book_getitem := ⟨a_Book_getitem, fn_Book_getitem, k_Book_getitem⟩,
    nd_Book := nd_Book,
    fi_Book_getitem := fi_Book_getitem,
    f_is_stamp := f_is_stamp,
    d_is_stamp := PySem.W.fnOf "is_stamp" "is_stamp" (defArgs s_is_stamp) (defBody s_is_stamp) (defScope s_is_stamp) (.ref T_is_stamp) kV_is_stamp dc_is_stamp pm_is_stamp an_is_stamp cd_is_stamp ct_is_stamp,
    F_is_stamp := ⟨⟨_, _, _, _, _, _, _, _, _, _, rfl, l_is_stamp, c_is_stamp, .inr ⟨by simp, _, _, [.int 0 tk0_is_stamp], _, rfl, T1_is_stamp, rfl, .cons ⟨_, rfl⟩ (.nil)⟩, .inl rfl⟩, k_is_stamp⟩,
    g_is_stamp := PySem.W.mg_of X G a_is_stamp,
    f_place := f_place,
    d_place := PySem.W.fnOf "place" "place" (defArgs s_place) (defBody s_place) (defScope s_place) .none kV_place dc_place pm_place an_place cd_place ct_place,
    F_place := fun_mk l_place c_place k_place,
    g_place := PySem.W.mg_of X G a_place,
    f_first_state := f_first_state,
    d_first_state := PySem.W.fnOf "first_state" "first_state" (defArgs s_first_state) (defBody s_first_state) (defScope s_first_state) .none kV_first_state dc_first_state pm_first_state an_first_state cd_first_state ct_first_state,
    F_first_state := fun_mk l_first_state c_first_state k_first_state,
    g_first_state := PySem.W.mg_of X G a_first_state,
    f_item_of := f_item_of,
    d_item_of := PySem.W.fnOf "item_of" "item_of" (defArgs s_item_of) (defBody s_item_of) (defScope s_item_of) .none kV_item_of dc_item_of pm_item_of an_item_of cd_item_of ct_item_of,
    F_item_of := fun_mk l_item_of c_item_of k_item_of,
    g_item_of := PySem.W.mg_of X G a_item_of,
    f_ascending := f_ascending,
    d_ascending := PySem.W.fnOf "ascending" "ascending" (defArgs s_ascending) (defBody s_ascending) (defScope s_ascending) .none kV_ascending dc_ascending pm_ascending an_ascending cd_ascending ct_ascending,
    F_ascending := fun_mk l_ascending c_ascending k_ascending,
    g_ascending := PySem.W.mg_of X G a_ascending,
    f_taken := f_taken,
    d_taken := PySem.W.fnOf "taken" "taken" (defArgs s_taken) (defBody s_taken) (defScope s_taken) .none kV_taken dc_taken pm_taken an_taken cd_taken ct_taken,
    F_taken := fun_mk l_taken c_taken k_taken,
    g_taken := PySem.W.mg_of X G a_taken,
    f_committed := f_committed,
    d_committed := PySem.W.fnOf "committed" "committed" (defArgs s_committed) (defBody s_committed) (defScope s_committed) .none kV_committed dc_committed pm_committed an_committed cd_committed ct_committed,
    F_committed := fun_mk l_committed c_committed k_committed,
    g_committed := PySem.W.mg_of X G a_committed,
    f_settled := f_settled,
    d_settled := PySem.W.fnOf "settled" "settled" (defArgs s_settled) (defBody s_settled) (defScope s_settled) .none kV_settled dc_settled pm_settled an_settled cd_settled ct_settled,
    F_settled := fun_mk l_settled c_settled k_settled,
    g_settled := PySem.W.mg_of X G a_settled,
    f_aborted := f_aborted,
    d_aborted := PySem.W.fnOf "aborted" "aborted" (defArgs s_aborted) (defBody s_aborted) (defScope s_aborted) .none kV_aborted dc_aborted pm_aborted an_aborted cd_aborted ct_aborted,
    F_aborted := fun_mk l_aborted c_aborted k_aborted,
    g_aborted := PySem.W.mg_of X G a_aborted,
    f_without := f_without,
    d_without := PySem.W.fnOf "without" "without" (defArgs s_without) (defBody s_without) (defScope s_without) .none kV_without dc_without pm_without an_without cd_without ct_without,
    F_without := fun_mk l_without c_without k_without,
    g_without := PySem.W.mg_of X G a_without,
    f_falling := f_falling,
    d_falling := PySem.W.fnOf "falling" "falling" (defArgs s_falling) (defBody s_falling) (defScope s_falling) .none kV_falling dc_falling pm_falling an_falling cd_falling ct_falling,
    F_falling := fun_mk l_falling c_falling k_falling,
    g_falling := PySem.W.mg_of X G a_falling,
    f_released := f_released,
    d_released := PySem.W.fnOf "released" "released" (defArgs s_released) (defBody s_released) (defScope s_released) .none kV_released dc_released pm_released an_released cd_released ct_released,
    F_released := fun_mk l_released c_released k_released,
    g_released := PySem.W.mg_of X G a_released,
    f_requested := f_requested,
    d_requested := PySem.W.fnOf "requested" "requested" (defArgs s_requested) (defBody s_requested) (defScope s_requested) .none kV_requested dc_requested pm_requested an_requested cd_requested ct_requested,
    F_requested := fun_mk l_requested c_requested k_requested,
    g_requested := PySem.W.mg_of X G a_requested,
    f_asked := f_asked,
    d_asked := PySem.W.fnOf "asked" "asked" (defArgs s_asked) (defBody s_asked) (defScope s_asked) .none kV_asked dc_asked pm_asked an_asked cd_asked ct_asked,
    F_asked := fun_mk l_asked c_asked k_asked,
    g_asked := PySem.W.mg_of X G a_asked,
    f_entry_met := f_entry_met,
    d_entry_met := PySem.W.fnOf "entry_met" "entry_met" (defArgs s_entry_met) (defBody s_entry_met) (defScope s_entry_met) .none kV_entry_met dc_entry_met pm_entry_met an_entry_met cd_entry_met ct_entry_met,
    F_entry_met := fun_mk l_entry_met c_entry_met k_entry_met,
    g_entry_met := PySem.W.mg_of X G a_entry_met,
    f_fixed_answer := f_fixed_answer,
    d_fixed_answer := PySem.W.fnOf "fixed_answer" "fixed_answer" (defArgs s_fixed_answer) (defBody s_fixed_answer) (defScope s_fixed_answer) .none kV_fixed_answer dc_fixed_answer pm_fixed_answer an_fixed_answer cd_fixed_answer ct_fixed_answer,
    F_fixed_answer := fun_mk l_fixed_answer c_fixed_answer k_fixed_answer,
    g_fixed_answer := PySem.W.mg_of X G a_fixed_answer,
    f_older_values := f_older_values,
    d_older_values := PySem.W.fnOf "older_values" "older_values" (defArgs s_older_values) (defBody s_older_values) (defScope s_older_values) .none kV_older_values dc_older_values pm_older_values an_older_values cd_older_values ct_older_values,
    F_older_values := fun_mk l_older_values c_older_values k_older_values,
    g_older_values := PySem.W.mg_of X G a_older_values,
    f_value_read := f_value_read,
    d_value_read := PySem.W.fnOf "value_read" "value_read" (defArgs s_value_read) (defBody s_value_read) (defScope s_value_read) .none kV_value_read dc_value_read pm_value_read an_value_read cd_value_read ct_value_read,
    F_value_read := fun_mk l_value_read c_value_read k_value_read,
    g_value_read := PySem.W.mg_of X G a_value_read,
    f_binds := f_binds,
    d_binds := PySem.W.fnOf "binds" "binds" (defArgs s_binds) (defBody s_binds) (defScope s_binds) .none kV_binds dc_binds pm_binds an_binds cd_binds ct_binds,
    F_binds := fun_mk l_binds c_binds k_binds,
    g_binds := PySem.W.mg_of X G a_binds,
    f_with_bond := f_with_bond,
    d_with_bond := PySem.W.fnOf "with_bond" "with_bond" (defArgs s_with_bond) (defBody s_with_bond) (defScope s_with_bond) .none kV_with_bond dc_with_bond pm_with_bond an_with_bond cd_with_bond ct_with_bond,
    F_with_bond := fun_mk l_with_bond c_with_bond k_with_bond,
    g_with_bond := PySem.W.mg_of X G a_with_bond,
    f_with_reader := f_with_reader,
    d_with_reader := PySem.W.fnOf "with_reader" "with_reader" (defArgs s_with_reader) (defBody s_with_reader) (defScope s_with_reader) .none kV_with_reader dc_with_reader pm_with_reader an_with_reader cd_with_reader ct_with_reader,
    F_with_reader := fun_mk l_with_reader c_with_reader k_with_reader,
    g_with_reader := PySem.W.mg_of X G a_with_reader,
    f_with_item := f_with_item,
    d_with_item := PySem.W.fnOf "with_item" "with_item" (defArgs s_with_item) (defBody s_with_item) (defScope s_with_item) .none kV_with_item dc_with_item pm_with_item an_with_item cd_with_item ct_with_item,
    F_with_item := fun_mk l_with_item c_with_item k_with_item,
    g_with_item := PySem.W.mg_of X G a_with_item,
    f_play := f_play,
    d_play := PySem.W.fnOf "play" "play" (defArgs s_play) (defBody s_play) (defScope s_play) .none kV_play dc_play pm_play an_play cd_play ct_play,
    F_play := fun_mk l_play c_play k_play,
    g_play := PySem.W.mg_of X G a_play,
    f_traced := f_traced,
    d_traced := PySem.W.fnOf "traced" "traced" (defArgs s_traced) (defBody s_traced) (defScope s_traced) .none kV_traced dc_traced pm_traced an_traced cd_traced ct_traced,
    F_traced := fun_mk l_traced c_traced k_traced,
    g_traced := PySem.W.mg_of X G a_traced,
    f_check_run := f_check_run,
    d_check_run := PySem.W.fnOf "check_run" "check_run" (defArgs s_check_run) (defBody s_check_run) (defScope s_check_run) .none kV_check_run dc_check_run pm_check_run an_check_run cd_check_run ct_check_run,
    F_check_run := fun_mk l_check_run c_check_run k_check_run,
    g_check_run := PySem.W.mg_of X G a_check_run,
    f_is_step := f_is_step,
    d_is_step := PySem.W.fnOf "is_step" "is_step" (defArgs s_is_step) (defBody s_is_step) (defScope s_is_step) .none kV_is_step dc_is_step pm_is_step an_is_step cd_is_step ct_is_step,
    F_is_step := fun_mk l_is_step c_is_step k_is_step,
    g_is_step := PySem.W.mg_of X G a_is_step,
    f_is_name := f_is_name,
    d_is_name := PySem.W.fnOf "is_name" "is_name" (defArgs s_is_name) (defBody s_is_name) (defScope s_is_name) .none kV_is_name dc_is_name pm_is_name an_is_name cd_is_name ct_is_name,
    F_is_name := fun_mk l_is_name c_is_name k_is_name,
    g_is_name := PySem.W.mg_of X G a_is_name,
    f_answers_at := f_answers_at,
    d_answers_at := PySem.W.fnOf "answers_at" "answers_at" (defArgs s_answers_at) (defBody s_answers_at) (defScope s_answers_at) .none kV_answers_at dc_answers_at pm_answers_at an_answers_at cd_answers_at ct_answers_at,
    F_answers_at := fun_mk l_answers_at c_answers_at k_answers_at,
    g_answers_at := PySem.W.mg_of X G a_answers_at,
    f_check_answer := f_check_answer,
    d_check_answer := PySem.W.fnOf "check_answer" "check_answer" (defArgs s_check_answer) (defBody s_check_answer) (defScope s_check_answer) .none kV_check_answer dc_check_answer pm_check_answer an_check_answer cd_check_answer ct_check_answer,
    F_check_answer := fun_mk l_check_answer c_check_answer k_check_answer,
    g_check_answer := PySem.W.mg_of X G a_check_answer,
    f_is_keep := f_is_keep,
    d_is_keep := PySem.W.fnOf "is_keep" "is_keep" (defArgs s_is_keep) (defBody s_is_keep) (defScope s_is_keep) .none kV_is_keep dc_is_keep pm_is_keep an_is_keep cd_is_keep ct_is_keep,
    F_is_keep := fun_mk l_is_keep c_is_keep k_is_keep,
    g_is_keep := PySem.W.mg_of X G a_is_keep,
    f_law_cell := f_law_cell,
    d_law_cell := PySem.W.fnOf "_law_cell" "_law_cell" (defArgs s_law_cell) (defBody s_law_cell) (defScope s_law_cell) .none kV_law_cell dc_law_cell pm_law_cell an_law_cell cd_law_cell ct_law_cell,
    F_law_cell := fun_mk l_law_cell c_law_cell k_law_cell,
    g_law_cell := PySem.W.mg_of X G a_law_cell,
    f_law_row := f_law_row,
    d_law_row := PySem.W.fnOf "_law_row" "_law_row" (defArgs s_law_row) (defBody s_law_row) (defScope s_law_row) .none kV_law_row dc_law_row pm_law_row an_law_row cd_law_row ct_law_row,
    F_law_row := fun_mk l_law_row c_law_row k_law_row,
    g_law_row := PySem.W.mg_of X G a_law_row,
    f_law_entries := f_law_entries,
    d_law_entries := PySem.W.fnOf "_law_entries" "_law_entries" (defArgs s_law_entries) (defBody s_law_entries) (defScope s_law_entries) .none kV_law_entries dc_law_entries pm_law_entries an_law_entries cd_law_entries ct_law_entries,
    F_law_entries := fun_mk l_law_entries c_law_entries k_law_entries,
    g_law_entries := PySem.W.mg_of X G a_law_entries,
    f_law_choices := f_law_choices,
    d_law_choices := PySem.W.fnOf "_law_choices" "_law_choices" (defArgs s_law_choices) (defBody s_law_choices) (defScope s_law_choices) .none kV_law_choices dc_law_choices pm_law_choices an_law_choices cd_law_choices ct_law_choices,
    F_law_choices := fun_mk l_law_choices c_law_choices k_law_choices,
    g_law_choices := PySem.W.mg_of X G a_law_choices,
    f_law_names := f_law_names,
    d_law_names := PySem.W.fnOf "_law_names" "_law_names" (defArgs s_law_names) (defBody s_law_names) (defScope s_law_names) .none kV_law_names dc_law_names pm_law_names an_law_names cd_law_names ct_law_names,
    F_law_names := fun_mk l_law_names c_law_names k_law_names,
    g_law_names := PySem.W.mg_of X G a_law_names,
    f_law_ints := f_law_ints,
    d_law_ints := PySem.W.fnOf "_law_ints" "_law_ints" (defArgs s_law_ints) (defBody s_law_ints) (defScope s_law_ints) .none kV_law_ints dc_law_ints pm_law_ints an_law_ints cd_law_ints ct_law_ints,
    F_law_ints := fun_mk l_law_ints c_law_ints k_law_ints,
    g_law_ints := PySem.W.mg_of X G a_law_ints,
    f_law_outcome := f_law_outcome,
    d_law_outcome := PySem.W.fnOf "_law_outcome" "_law_outcome" (defArgs s_law_outcome) (defBody s_law_outcome) (defScope s_law_outcome) .none kV_law_outcome dc_law_outcome pm_law_outcome an_law_outcome cd_law_outcome ct_law_outcome,
    F_law_outcome := fun_mk l_law_outcome c_law_outcome k_law_outcome,
    g_law_outcome := PySem.W.mg_of X G a_law_outcome,
    f_law_ways := f_law_ways,
    d_law_ways := PySem.W.fnOf "_law_ways" "_law_ways" (defArgs s_law_ways) (defBody s_law_ways) (defScope s_law_ways) .none kV_law_ways dc_law_ways pm_law_ways an_law_ways cd_law_ways ct_law_ways,
    F_law_ways := fun_mk l_law_ways c_law_ways k_law_ways,
    g_law_ways := PySem.W.mg_of X G a_law_ways,
    f_law_scaled := f_law_scaled,
    d_law_scaled := PySem.W.fnOf "_law_scaled" "_law_scaled" (defArgs s_law_scaled) (defBody s_law_scaled) (defScope s_law_scaled) .none kV_law_scaled dc_law_scaled pm_law_scaled an_law_scaled cd_law_scaled ct_law_scaled,
    F_law_scaled := fun_mk l_law_scaled c_law_scaled k_law_scaled,
    g_law_scaled := PySem.W.mg_of X G a_law_scaled,
    f_law_due := f_law_due,
    d_law_due := PySem.W.fnOf "_law_due" "_law_due" (defArgs s_law_due) (defBody s_law_due) (defScope s_law_due) .none kV_law_due dc_law_due pm_law_due an_law_due cd_law_due ct_law_due,
    F_law_due := fun_mk l_law_due c_law_due k_law_due,
    g_law_due := PySem.W.mg_of X G a_law_due,
    f_law := f_law,
    d_law := PySem.W.fnOf "law" "law" (defArgs s_law) (defBody s_law) (defScope s_law) .none kV_law dc_law pm_law an_law cd_law ct_law,
    F_law := fun_mk l_law c_law k_law,
    g_law := PySem.W.mg_of X G a_law,
    g_GREATEST := ⟨_, PySem.W.mg_of X G gv_GREATEST⟩,
    g_SIGNS := ⟨_, PySem.W.mg_of X G gv_SIGNS⟩,
    g_LONGEST_NAME := ⟨_, PySem.W.mg_of X G gv_LONGEST_NAME⟩,
    o_ENTRIES := o_ENTRIES,
    g_ENTRIES := PySem.W.mg_of X G gv_ENTRIES,
    q_ENTRIES := fun _ => .inr ⟨_, _, _, tl_ENTRIES, rfl, rfl, (show (14 : Nat) ≤ sizeLine by decide), (.cons ⟨_, rfl⟩ (.cons ⟨_, rfl⟩ (.cons ⟨_, rfl⟩ (.cons ⟨_, rfl⟩ (.cons ⟨_, rfl⟩ (.cons ⟨_, rfl⟩ (.cons ⟨_, rfl⟩ (.cons ⟨_, rfl⟩ (.cons ⟨_, rfl⟩ (.cons ⟨_, rfl⟩ (.cons ⟨_, rfl⟩ (.cons ⟨_, rfl⟩ (.cons ⟨_, rfl⟩ (.cons ⟨_, rfl⟩ .nil))))))))))))))⟩,
    o_ANSWERS := o_ANSWERS,
    g_ANSWERS := PySem.W.mg_of X G gv_ANSWERS,
    o0_ANSWERS := o0_ANSWERS,
    q0_ANSWERS := fun _ => .inr ⟨_, _, _, tl_0_ANSWERS, rfl, rfl, (show (3 : Nat) ≤ sizeLine by decide), (.cons ⟨_, rfl⟩ (.cons ⟨_, rfl⟩ (.cons ⟨_, rfl⟩ .nil)))⟩,
    o1_ANSWERS := o1_ANSWERS,
    q1_ANSWERS := fun _ => .inr ⟨_, _, _, tl_1_ANSWERS, rfl, rfl, (show (5 : Nat) ≤ sizeLine by decide), (.cons ⟨_, rfl⟩ (.cons ⟨_, rfl⟩ (.cons ⟨_, rfl⟩ (.cons ⟨_, rfl⟩ (.cons ⟨_, rfl⟩ .nil)))))⟩,
    o2_ANSWERS := o2_ANSWERS,
    q2_ANSWERS := fun _ => .inr ⟨_, _, _, tl_2_ANSWERS, rfl, rfl, (show (4 : Nat) ≤ sizeLine by decide), (.cons ⟨_, rfl⟩ (.cons ⟨_, rfl⟩ (.cons ⟨_, rfl⟩ (.cons ⟨_, rfl⟩ .nil))))⟩,
    o3_ANSWERS := o3_ANSWERS,
    q3_ANSWERS := fun _ => .inr ⟨_, _, _, tl_3_ANSWERS, rfl, rfl, (show (4 : Nat) ≤ sizeLine by decide), (.cons ⟨_, rfl⟩ (.cons ⟨_, rfl⟩ (.cons ⟨_, rfl⟩ (.cons ⟨_, rfl⟩ .nil))))⟩,
    o4_ANSWERS := o4_ANSWERS,
    q4_ANSWERS := fun _ => .inr ⟨_, _, _, tl_4_ANSWERS, rfl, rfl, (show (2 : Nat) ≤ sizeLine by decide), (.cons ⟨_, rfl⟩ (.cons ⟨_, rfl⟩ .nil))⟩,
    o5_ANSWERS := o5_ANSWERS,
    q5_ANSWERS := fun _ => .inr ⟨_, _, _, tl_5_ANSWERS, rfl, rfl, (show (4 : Nat) ≤ sizeLine by decide), (.cons ⟨_, rfl⟩ (.cons ⟨_, rfl⟩ (.cons ⟨_, rfl⟩ (.cons ⟨_, rfl⟩ .nil))))⟩,
    o6_ANSWERS := o6_ANSWERS,
    q6_ANSWERS := fun _ => .inr ⟨_, _, _, tl_6_ANSWERS, rfl, rfl, (show (4 : Nat) ≤ sizeLine by decide), (.cons ⟨_, rfl⟩ (.cons ⟨_, rfl⟩ (.cons ⟨_, rfl⟩ (.cons ⟨_, rfl⟩ .nil))))⟩,
    o7_ANSWERS := o7_ANSWERS,
    q7_ANSWERS := fun _ => .inr ⟨_, _, _, tl_7_ANSWERS, rfl, rfl, (show (4 : Nat) ≤ sizeLine by decide), (.cons ⟨_, rfl⟩ (.cons ⟨_, rfl⟩ (.cons ⟨_, rfl⟩ (.cons ⟨_, rfl⟩ .nil))))⟩,
    o8_ANSWERS := o8_ANSWERS,
    q8_ANSWERS := fun _ => .inr ⟨_, _, _, tl_8_ANSWERS, rfl, rfl, (show (2 : Nat) ≤ sizeLine by decide), (.cons ⟨_, rfl⟩ (.cons ⟨_, rfl⟩ .nil))⟩,
    o9_ANSWERS := o9_ANSWERS,
    q9_ANSWERS := fun _ => .inr ⟨_, _, _, tl_9_ANSWERS, rfl, rfl, (show (2 : Nat) ≤ sizeLine by decide), (.cons ⟨_, rfl⟩ (.cons ⟨_, rfl⟩ .nil))⟩,
    o10_ANSWERS := o10_ANSWERS,
    q10_ANSWERS := fun _ => .inr ⟨_, _, _, tl_10_ANSWERS, rfl, rfl, (show (2 : Nat) ≤ sizeLine by decide), (.cons ⟨_, rfl⟩ (.cons ⟨_, rfl⟩ .nil))⟩,
    o11_ANSWERS := o11_ANSWERS,
    q11_ANSWERS := fun _ => .inr ⟨_, _, _, tl_11_ANSWERS, rfl, rfl, (show (4 : Nat) ≤ sizeLine by decide), (.cons ⟨_, rfl⟩ (.cons ⟨_, rfl⟩ (.cons ⟨_, rfl⟩ (.cons ⟨_, rfl⟩ .nil))))⟩,
    o12_ANSWERS := o12_ANSWERS,
    q12_ANSWERS := fun _ => .inr ⟨_, _, _, tl_12_ANSWERS, rfl, rfl, (show (4 : Nat) ≤ sizeLine by decide), (.cons ⟨_, rfl⟩ (.cons ⟨_, rfl⟩ (.cons ⟨_, rfl⟩ (.cons ⟨_, rfl⟩ .nil))))⟩,
    o13_ANSWERS := o13_ANSWERS,
    q13_ANSWERS := fun _ => .inr ⟨_, _, _, tl_13_ANSWERS, rfl, rfl, (show (4 : Nat) ≤ sizeLine by decide), (.cons ⟨_, rfl⟩ (.cons ⟨_, rfl⟩ (.cons ⟨_, rfl⟩ (.cons ⟨_, rfl⟩ .nil))))⟩,
    es_ANSWERS := #[⟨h0_ANSWERS, .str "read late" tk0_ANSWERS, .ref o0_ANSWERS⟩, ⟨h1_ANSWERS, .str "read under" tk1_ANSWERS, .ref o1_ANSWERS⟩, ⟨h2_ANSWERS, .str "read below" tk2_ANSWERS, .ref o2_ANSWERS⟩, ⟨h3_ANSWERS, .str "read above" tk3_ANSWERS, .ref o3_ANSWERS⟩, ⟨h4_ANSWERS, .str "write late" tk4_ANSWERS, .ref o4_ANSWERS⟩, ⟨h5_ANSWERS, .str "write under" tk5_ANSWERS, .ref o5_ANSWERS⟩, ⟨h6_ANSWERS, .str "write below" tk6_ANSWERS, .ref o6_ANSWERS⟩, ⟨h7_ANSWERS, .str "write above" tk7_ANSWERS, .ref o7_ANSWERS⟩, ⟨h8_ANSWERS, .str "write free passed" tk8_ANSWERS, .ref o8_ANSWERS⟩, ⟨h9_ANSWERS, .str "write own passed" tk9_ANSWERS, .ref o9_ANSWERS⟩, ⟨h10_ANSWERS, .str "write late passed" tk10_ANSWERS, .ref o10_ANSWERS⟩, ⟨h11_ANSWERS, .str "write under passed" tk11_ANSWERS, .ref o11_ANSWERS⟩, ⟨h12_ANSWERS, .str "write below passed" tk12_ANSWERS, .ref o12_ANSWERS⟩, ⟨h13_ANSWERS, .str "write above passed" tk13_ANSWERS, .ref o13_ANSWERS⟩],
    ep_ANSWERS := ep_ANSWERS,
    kd_ANSWERS := ⟨dl_ANSWERS, dk_ANSWERS, ds_ANSWERS⟩,
    n0_ANSWERS := dn0_ANSWERS,
    n1_ANSWERS := dn1_ANSWERS,
    n2_ANSWERS := dn2_ANSWERS,
    n3_ANSWERS := dn3_ANSWERS,
    n4_ANSWERS := dn4_ANSWERS,
    n5_ANSWERS := dn5_ANSWERS,
    n6_ANSWERS := dn6_ANSWERS,
    n7_ANSWERS := dn7_ANSWERS,
    n8_ANSWERS := dn8_ANSWERS,
    n9_ANSWERS := dn9_ANSWERS,
    n10_ANSWERS := dn10_ANSWERS,
    n11_ANSWERS := dn11_ANSWERS,
    n12_ANSWERS := dn12_ANSWERS,
    n13_ANSWERS := dn13_ANSWERS,
    g_MOST_KEPT := ⟨_, PySem.W.mg_of X G gv_MOST_KEPT⟩,
    n_all := PySem.W.mg_none_of X G n_all,
    n_bool := PySem.W.mg_none_of X G n_bool,
    n_dict := PySem.W.mg_none_of X G n_dict,
    n_enumerate := PySem.W.mg_none_of X G n_enumerate,
    n_int := PySem.W.mg_none_of X G n_int,
    n_isinstance := PySem.W.mg_none_of X G n_isinstance,
    n_len := PySem.W.mg_none_of X G n_len,
    n_list := PySem.W.mg_none_of X G n_list,
    n_range := PySem.W.mg_none_of X G n_range,
    n_sorted := PySem.W.mg_none_of X G n_sorted,
    n_str := PySem.W.mg_none_of X G n_str,
    n_super := PySem.W.mg_none_of X G n_super,
    n_tuple := PySem.W.mg_none_of X G n_tuple
  }, ?_⟩
  exact (Value.ref.inj (Option.some.inj (hfa.symm.trans (PySem.W.mg_of X G a_law)))).symm
end K11
namespace K11
open PySem L2
abbrev PP : Program := PySem.Challenge.rw_stamprules_k11_what_an_answer_does.prog
end K11

/-! Rules of our own over the hand layer: a comparison by an own method, isinstance of a caught error that has fields, an instance made within a try. -/
namespace CM
open PySem PySem.Spec PyProof.Rows L2
section
variable {X : Cx} {CX : CXT} {pins : List (Addr × Obj)} {σ : L2.St} {H : Hp} {s : Shared} {a C g : Addr} {n : Nat} {sp : Sp} {E : XK}
/-- x op y, both instances of the class at C, whose own def for op is at g -/
def rOwnI (C : Addr) (sp : Sp) (E : XK) : R2 := fun x y H Q => ∃ a dx fs b dy gs, x = .ref a ∧ y = .ref b ∧ H a = some (.ins C dx fs) ∧ H b = some (.ins C dy gs) ∧ sp [x, y] H Q E
theorem op_ownI {op : CmpOp} (hop : ∀ a b, compareOp op a b = richCompare op a b) (hs : PySem.W.findIn X.K (.ref C) (cmpInfo op).2.1 = some (some (.ref g))) (hf : PySem.W.isFn X.K (.ref g) = true) (F : FnR X.prog X.w X.K X.mg X.base CX n g sp)
    (hr : Room n X.A) (hx : Passes CX X E) : OpR X (compareOp op) (rOwnI C sp E) := by
  intro pins s σ H x y v u Q I rx ry h
  obtain ⟨a, dx, fs, b, dy, gs, rfl, rfl, ha, hb, q⟩ := h
  cases (show v = Value.ref a from rx)
  cases (show u = Value.ref b from ry)
  obtain ⟨mA, O, _⟩ := ins_get I.hok ha
  obtain ⟨od, J, _⟩ := O.look
  obtain ⟨mB, O', _⟩ := ins_get I.hok hb
  obtain ⟨od', J', _⟩ := O'.look
  obtain ⟨m, hF⟩ := I.fr
  rw [hop]
  refine PySem.W.cmp_K (op := op) (tb := .ref C) hr.units0 hF I.ok.mod.kin J J'.type (by simp [PySem.W.notFirst]) hs hf ?_
  refine wpAny_mono (wpAny_call (run_fnR (us := [.ref a, .ref b]) (vs := [.ref a, .ref b]) F hr hx I (.cons rfl (.cons rfl .nil)) q)) (fun w s' z => ?_) fun _ _ x => x
  obtain ⟨z', H', I', rz, qz⟩ := z
  exact SlX.cmpback rz ⟨z', H', I', rz, qz⟩
end
/-- isinstance(e, c), e the exception that the suite holds (its class cls, its dict d), with fields of its own -/
def rIsD (K : PySem.W.Frag) (D a : Addr) (cls : Value) (d : Option Addr) : List V → Hp → VK → Prop := fun xs H Q => ∃ (c : V) (cv : Value) (b : Bool) (dd : Addr) (fs : List (Str × V)), xs = [.ref a, c] ∧ cls = .ref D ∧ d = some dd ∧ ClsV c cv ∧ PySem.W.kitOne K (.ref D) cv = some b ∧ H dd = some (.xd fs) ∧ Q (.bl b) H
theorem call_isD {X : Cx} {a D : Addr} {cls : Value} {d : Option Addr} {oe : Obj} {pn : List (Addr × Obj)} (C : ExcC X.K D) (hz : Zc cls d oe) (hf : ∃ vs, oe.data = .fields vs) : CallR (X.suite a ((a, oe) :: pn)) (.builtin "isinstance") (rIsD X.K D a cls d) := by
  intro pins s σ H xs us Q I r h
  obtain ⟨c, cv, b, dd, fs, rfl, rfl, rfl, hcv, e, ea, q⟩ := h
  cases r with
  | cons rx rr =>
    cases rr with
    | cons rt rr =>
      cases rr
      cases rx
      have ec := hcv.eq rt
      subst ec
      obtain ⟨hget, _⟩ := I.pin (a, oe) (List.mem_append.mpr (.inl List.mem_cons_self))
      obtain ⟨vs, hv⟩ := hf
      have hx : ObjOk X.prog X.w H s.heap dd (.xd fs) := I.hok dd _ ea
      obtain ⟨mA, hns, hr⟩ := hx
      obtain ⟨od, ho, hl⟩ := lookIn_ns hns
      have J : PySem.W.InstAt s.heap a oe D (some od) := ⟨hget, hz.1, by unfold PySem.W.notCls; rw [hv] <;> rfl, by rw [hz.2]; exact ho⟩
      have hcl : (PySem.W.clsIn X.K D).isSome = true := by
        obtain ⟨cd, hc, _⟩ := PySem.W.any_some C.hd
        rw [hc]
        rfl
      exact PySem.W.kia_one (PySem.W.kitx_exc hcl C.hg C.hk C.hs C.ha C.hn C.ht C.hm) I.kIn J e (fun z => by cases hcv <;> cases z) fun tk => ⟨.bl b, H, I.kept (t' := tk) fun _ _ z => z, rfl, q⟩
/-- an object that stands, behind a new one -/
theorem kp {H : Hp} {p q : Addr} {o o' : HO} (n : H p = none) (h : H q = some o) : upd H p o' q = some o := by
  rw [upd_ne (ne_of_none h n)]
  exact h
theorem same_new {H H' : Hp} {p : Addr} {o : HO} (s : Same H H') (n : H' p = none) : Same H (upd H' p o) := fun b o' h => kp n (s b o' h)
section
variable {X : Cx} {CX : CXT} {k : Nat} {f C : Addr} {fd : FuncData} {ps : List Str} {sp : Sp} {E : L2.St → XK} {x : Str} {p pos : Pos} {e : Expr} {es : List Expr} {t : TA} {ds : List Value} {dvs : List V}
/-- C(e, ..) whose __init__ may raise, within a try -/
def tMakeS (C : Addr) (sp : Sp) (dvs : List V) (E : L2.St → XK) (t : TA) : TE := fun σ H Q => t σ H fun vs H1 => ∀ x dx, H1 x = none → H1 dx = none → dx ≠ x →
  sp (.ref x :: (vs ++ dvs)) (upd (upd H1 dx (.own x)) x (.ins C dx [])) (fun v H2 => v = .non ∧ Q (.ref x) H2) (E σ)
theorem pe_makeS (M : Mk X.K C f) (F : FnOk X.prog X.w X.K X.mg X.base CX k f fd ps sp) (hr : Room (k + 1) X.A) (hg : Gl X x) (hm : X.mg x = some (.ref C)) (hb : Binds X.K fd ps ds) (hd : Vals dvs ds) (hx : ∀ σ, PassesAt CX X σ (E σ))
    (ha : PA X (e :: es) t) (hdb : (x == ("__debug__" : Str)) = false := by decide) (he : starEach (e :: es) X.env = (false, eval e X.env) :: starEach es X.env := by rfl) (hpl : (backTo pos (starEach es X.env)).any (·.1) = false := by rfl) :
    PE X (.Call (.Name x p) (e :: es) [] pos) (tMakeS C sp dvs E t) := by
  refine ⟨fun pins s σ H Q I h => ?_⟩
  refine wpAny_Call_Name_kw (ld_glob I hg hm ?_ hdb)
  refine PySem.W.callWith_K (h₀ := X.base) I.ok.mod.kin M.kp (thn (ha.run pos pins s σ H _ I h) fun us s1 ⟨vs, H1, I1, r, q⟩ => ⟨I1.kIn, ?_⟩) he hpl
  have hq := q (s1.heap.objs.size + 1) s1.heap.objs.size (I1.hok.fresh (Nat.le_succ _)) (I1.hok.fresh (Nat.le_refl _)) (Nat.ne_of_lt (Nat.lt_succ_self _))
  have I2 := Inv.made (C := C) I1
  have r2 : Vals (V.ref (s1.heap.objs.size + 1) :: (vs ++ dvs)) (Value.ref (s1.heap.objs.size + 1) :: (us ++ ds)) := .cons rfl (r.append hd)
  have hl : (Value.ref (s1.heap.objs.size + 1) :: us ++ ds).length = ps.length := by
    have e := r2.length
    rw [F.len _ _ _ _ hq] at e
    exact e.symm
  refine wpAny_call (make_map (f := f) I1.kIn M.makes M.init (beq_iff_eq.mp M.fn) (codeAny_mono (F.run _ X.stack _ _ ⟨Value.ref (s1.heap.objs.size + 1) :: us, []⟩ (Value.ref (s1.heap.objs.size + 1) :: (us ++ ds)) _ _ (E σ) (hr.make C us [])
    (I2.env0.make C us []) (hb _ (Value.ref (s1.heap.objs.size + 1) :: us) I2.kIn hl) r2 hq) fun r s' hq' => ?_))
  cases r with
  | error e => exact hx σ pins _ _ e s' I2 hq'
  | ok fl =>
    cases fl with
    | ret u =>
      obtain ⟨v, H', I3, rv, ev, q3⟩ := I2.after hq'
      subst ev
      exact ⟨rv, ⟨V.ref (s1.heap.objs.size + 1), H', I3, rfl, q3⟩⟩
    | next => exact False.elim hq'
    | brk => exact False.elim hq'
    | cont => exact False.elim hq'
end
end CM

/-! A written dict from texts to texts: d[k], k not in d. -/
namespace CM
open PySem PySem.Spec PyProof.Rows L2
/-- the heap behind an error that was made with one field -/
theorem raise_heap {H : Hp} {a d : Addr} {o1 x o2 y : HO} (ha : H a = none) : upd (del (upd (upd (upd H a o1) d x) a o2) a) d y = upd H d y := by
  funext b
  by_cases hbd : b = d
  · rw [hbd, upd_same, upd_same]
  · rw [upd_ne hbd, upd_ne hbd]
    by_cases hba : b = a
    · rw [hba, del_same, ha]
    · rw [del_ne hba, upd_ne hba, upd_ne hbd, upd_ne hba]
theorem cut_head {z : Str} : TL.tl (cutS z none (some 1)) = (TL.tl z).take 1 := by
  show (z.cps.toList.drop (HT.sIx z.length 0 none)).take (HT.sIx z.length z.length (some ((1 : Nat) : Int)) - HT.sIx z.length 0 none) = _
  rw [HT.sIx_none, HT.sIx_nat, List.drop_zero, Nat.sub_zero]
  have e : z.length = z.cps.toList.length := TL.len_tl z
  rw [e]
  show _ = z.cps.toList.take 1
  generalize z.cps.toList = l
  cases l with
  | nil => rfl
  | cons c d =>
    have : min 1 (c :: d).length = 1 := by simp
    rw [this]
theorem cut_tail {z : Str} : TL.tl (cutS z (some 1) none) = (TL.tl z).drop 1 := by
  show (z.cps.toList.drop (HT.sIx z.length 0 (some ((1 : Nat) : Int)))).take (HT.sIx z.length z.length none - HT.sIx z.length 0 (some ((1 : Nat) : Int))) = _
  rw [HT.sIx_none, HT.sIx_nat]
  have e : z.length = z.cps.toList.length := TL.len_tl z
  rw [e]
  show _ = z.cps.toList.drop 1
  generalize z.cps.toList = l
  cases l with
  | nil => rfl
  | cons c d =>
    have : min 1 (c :: d).length = 1 := by simp
    rw [this]
    have l : ((c :: d).drop 1).length = (c :: d).length - 1 := List.length_drop
    rw [List.take_of_length_le (by omega)]
/-- at p the written dict of the pairs kvs -/
def WDct (K : PySem.W.Frag) (w : World) (p : Addr) (kvs : List (Str × Str)) : Prop :=
  ∃ es n, K.lookup p = some ⟨.type "dict", none, .dict es n, #[]⟩ ∧ PySem.W.KeysLit w.params es.toList ∧ (p == sysModules) = false ∧ Paired (fun (e : DictEntry) (q : Str × Str) => (∃ t, e.key = .str q.1 t) ∧ ∃ t, e.val = .str q.2 t) es.toList kvs
theorem wd_find : ∀ {es : List DictEntry} {kvs : List (Str × Str)}, Paired (fun (e : DictEntry) (q : Str × Str) => (∃ t, e.key = .str q.1 t) ∧ ∃ t, e.val = .str q.2 t) es kvs → ∀ z : Str,
    match kvs.lookup z with
    | some y => ∃ t, (es.find? fun e => PySem.Value.isStrOf z e.key).map (·.val) = some (.str y t)
    | none => (es.find? fun e => PySem.Value.isStrOf z e.key).map (·.val) = none
  | _, _, .nil, _ => rfl
  | e :: es, (a, b) :: kvs, .cons ⟨⟨t, hk⟩, u, hv⟩ r, z => by
    have ih := wd_find r z
    have ek : PySem.Value.isStrOf z e.key = (a == z) := by rw [hk] <;> rfl
    by_cases h : z = a
    · subst h
      have l : ((z, b) :: kvs).lookup z = some b := by simp [List.lookup]
      rw [l]
      refine ⟨u, ?_⟩
      rw [List.find?_cons, ek]
      simp [hv]
    · have l : ((a, b) :: kvs).lookup z = kvs.lookup z := by
        have : (z == a) = false := by simpa using h
        simp [List.lookup, this]
      have n : (a == z) = false := by
        have : ¬ a = z := fun q => h q.symm
        simpa using this
      rw [l, List.find?_cons, ek, n]
      exact ih
theorem wd_findBy {es : Array DictEntry} {kvs : List (Str × Str)} (r : Paired (fun (e : DictEntry) (q : Str × Str) => (∃ t, e.key = .str q.1 t) ∧ ∃ t, e.val = .str q.2 t) es.toList kvs) (z : Str) :
    findBy PySem.Value.isStrOf es z = (es.toList.find? fun e => PySem.Value.isStrOf z e.key).map (·.val) := by
  obtain ⟨l⟩ := es
  simp [findBy]
def rNotInW (K : PySem.W.Frag) (w : World) : R2 := fun x y H Q => ∃ z p kvs, x = .str z ∧ y = .ref p ∧ WDct K w p kvs ∧ Q (.bl (!(kvs.lookup z).isSome)) H
def rIxW (K : PySem.W.Frag) (w : World) : R2 := fun x y H Q => ∃ z p kvs v, x = .ref p ∧ y = .str z ∧ WDct K w p kvs ∧ kvs.lookup z = some v ∧ Q (.str v) H
section
variable {X : Cx}
theorem op_notinW : OpR X (compareOp .NotIn) (rNotInW X.K X.w) := by
  intro pins s σ H x y v u Q I rx ry h
  obtain ⟨z, p, kvs, rfl, rfl, ⟨es, n, hl, hk, low, pr⟩, q⟩ := h
  obtain ⟨t, rfl⟩ := (show ∃ t, v = Value.str z t from rx)
  obtain rfl : u = Value.ref p := ry
  have hm := PySem.W.mapOf_K (prog := X.prog) (w := X.w) I.kIn hl hk
  refine wpAny_notIn_of (strKind_is X.prog X.w z t) low hm ?_
  have e : (findBy PySem.Value.isStrOf es z).isSome = (kvs.lookup z).isSome := by
    have f := wd_find pr z
    rw [wd_findBy pr z]
    cases hq : kvs.lookup z with
    | none =>
      rw [hq] at f
      rw [f] <;> rfl
    | some y =>
      rw [hq] at f
      obtain ⟨t', f⟩ := f
      rw [f] <;> rfl
  have e' : (findBy Value.isStrOf es z).isSome = (kvs.lookup z).isSome := e
  rw [e']
  exact ⟨.bl (!(kvs.lookup z).isSome), H, I.tok _, rfl, q⟩
theorem ix_W : IxR X (rIxW X.K X.w) := by
  intro value slice pins s σ H x y v u Q I rx ry h hs
  obtain ⟨z, p, kvs, r, rfl, rfl, ⟨es, n, hl, hk, low, pr⟩, lk, q⟩ := h
  obtain rfl : v = Value.ref p := rx
  obtain ⟨t, rfl⟩ := ry
  have hm := PySem.W.mapOf_K (prog := X.prog) (w := X.w) I.kIn hl hk
  have f := wd_find pr z
  rw [lk] at f
  obtain ⟨t', f⟩ := f
  rw [← wd_findBy pr z] at f
  exact tail_any hm.typeIs slot_dict_getitem.lookup (wpAny_getItem_of (strKind_is X.prog X.w z t) hm f ⟨.str r, H, I.tok _, ⟨_, rfl⟩, q⟩) hs
end
end CM

/-! Own operators of a plain class, below the layer: o[i], o[i] = v, x in o, o &= p, iter(o). -/
namespace OWN
open PySem PySem.Spec PyProof.Rows
section
variable {prog : Program} {w : World} {M : Model} {A : Around} {E : Value → Shared → Prop} {s : Shared} {K : PySem.W.Frag} {x C g : Addr} {ox : Obj} {od : Option Obj}
theorem spec {self : Value} {name : PySem.Str} {args : List Value} {Q : Option Value → Shared → Prop} (sp : PySem.W.Looks M s.heap (specialOf self name) (some (.ref g))) (hb : PySem.W.Looks M s.heap (bindSpecial (.ref g) self) (.ref g, [self]))
    (hc : wpAny M A (call (.ref g) (self :: args)) (fun v => Q (some v)) E s) : wpAny M A (callSpecial? self name args) Q E s := by
  simp only [callSpecial?]
  refine wpAny_bind (sp.here ?_)
  refine wpAny_holding (wpAny_bind (hb.here ?_))
  exact wpAny_bind (wpAny_mono hc (fun v s' h' => wpAny_pure h') fun _ _ h' => h')
theorem special {name : PySem.Str} {h : Heap} (X : K.In h) (J : PySem.W.InstAt h x ox C od) (hs : PySem.W.findIn K (.ref C) name = some (some (.ref g))) : PySem.W.Looks M h (specialOf (.ref x) name) (some (.ref g)) :=
  J.type.andThen (PySem.W.looks_findIn X hs)
theorem seqkey {h : Heap} {k : Value} {nm : PySem.Str} (X : K.In h) (J : PySem.W.InstAt h x ox C od) (nd : PySem.W.mroIn K C (.type "collections.deque") = some false) : PySem.W.Looks M h (sequenceKey (.ref x) k nm) k := by
  have dq : PySem.W.Looks M h (seqItemTypes.anyM fun n => isSubtype (.ref C) (.type n)) false := by
    show PySem.W.Looks M h (isSubtype (.ref C) (.type "collections.deque") >>= fun b => _) false
    exact (PySem.W.looks_mroIn X nd).andThen .now
  intro A Q E s kp q
  unfold sequenceKey
  refine wpAny_bind (J.type A _ E s kp ?_)
  dsimp only
  refine wpAny_bind (dq A _ E s kp ?_)
  exact wpAny_pure q
theorem getItem_own {i : Value} {Q : Value → Shared → Prop} (X : K.In s.heap) (J : PySem.W.InstAt s.heap x ox C od) (hs : PySem.W.findIn K (.ref C) "__getitem__" = some (some (.ref g))) (hf : PySem.W.isFn K (.ref g) = true)
    (nd : PySem.W.mroIn K C (.type "collections.deque") = some false) (h : wpAny (model prog w) A (call (.ref g) [.ref x, i]) Q E s) : wpAny (model prog w) A (getItem (.ref x) i) Q E s := by
  unfold getItem
  refine wpAny_holding ?_
  refine wpAny_bind ((seqkey (M := model prog w) (k := i) X J nd).here ?_)
  refine wpAny_bind (spec (special X J hs) (PySem.W.bind_fn X _ (beq_iff_eq.mp hf)) (wpAny_mono h (fun v s' z => wpAny_pure z) fun _ _ z => z))
theorem setItem_own {i v : Value} {Q : Unit → Shared → Prop} (X : K.In s.heap) (J : PySem.W.InstAt s.heap x ox C od) (hs : PySem.W.findIn K (.ref C) "__setitem__" = some (some (.ref g))) (hf : PySem.W.isFn K (.ref g) = true)
    (nd : PySem.W.mroIn K C (.type "collections.deque") = some false) (h : wpAny (model prog w) A (call (.ref g) [.ref x, i, v]) (fun _ s' => Q () s') E s) : wpAny (model prog w) A (setItem (.ref x) i v) Q E s := by
  unfold setItem
  refine wpAny_holding ?_
  refine wpAny_bind ((seqkey (M := model prog w) (k := i) X J nd).here ?_)
  refine wpAny_bind (spec (special X J hs) (PySem.W.bind_fn X _ (beq_iff_eq.mp hf)) (wpAny_mono h (fun v s' z => wpAny_pure z) fun _ _ z => z))
theorem contains_own {i : Value} {Q : Bool → Shared → Prop} (X : K.In s.heap) (J : PySem.W.InstAt s.heap x ox C od) (hs : PySem.W.findIn K (.ref C) "__contains__" = some (some (.ref g))) (hf : PySem.W.isFn K (.ref g) = true)
    (h : wpAny (model prog w) A (call (.ref g) [.ref x, i]) (fun v s' => ∃ b, v = .bool b ∧ Q b s') E s) : wpAny (model prog w) A (contains (.ref x) i) Q E s := by
  unfold contains
  refine wpAny_holding ?_
  simp only [stdlibNamesSay?]
  refine wpAny_bind ((special X J hs).here ?_)
  have ne : ((some (Value.ref g)) == some Value.none) = false := rfl
  rw [ne]
  simp only [Bool.false_eq_true, if_false]
  have main : ∀ t : Sem Value, wpAny (model prog w) A (callSpecialUnlessNone? (.ref x) (Str.ofString "__contains__") [i] t) (fun r s' => ∃ b, r = some (.bool b) ∧ Q b s') E s := fun t => by
    simp only [callSpecialUnlessNone?]
    refine wpAny_bind ((special X J hs).here ?_)
    refine wpAny_holding (wpAny_bind ((PySem.W.bind_fn X _ (beq_iff_eq.mp hf)).here ?_))
    have ng : ((Value.ref g) == Value.none) = false := rfl
    simp only [ng, Bool.false_eq_true, if_false]
    refine wpAny_bind (wpAny_mono h (fun v s' z => ?_) fun _ _ z => z)
    obtain ⟨b, rfl, q⟩ := z
    exact wpAny_pure ⟨b, rfl, q⟩
  refine wpAny_bind (wpAny_mono (main _) (fun r s' z => ?_) fun _ _ z => z)
  obtain ⟨b, rfl, q⟩ := z
  exact wpAny_truthy_bool q
theorem fills_own {h : Heap} {nm : String} {cd : ClassData} {rest : List Value} {b : Bool} (X : K.In h) (hc : PySem.W.clsIn K C = some cd) (hm : cd.mro = .ref C :: rest) (hs : PySem.W.findIn K (.ref C) (dunderI nm) = some (some (.ref g))) :
    PySem.W.Looks M h (fillsInplaceSlot (.ref C) nm b) true := by
  intro A Q E s kp q
  unfold fillsInplaceSlot
  dsimp only
  have lm : PySem.W.Looks M h (mroOf (.ref C)) cd.mro := (PySem.W.looks_clsIn X hc).andThen (f := fun cd => pure cd.mro) .now
  refine wpAny_bind (lm A _ E s kp ?_)
  rw [hm]
  simp only [List.anyM]
  refine wpAny_bind (wpAny_bind ((PySem.W.looks_findIn X hs) A _ E s kp ?_))
  have hw : ownNameWrapper (.ref g) (dunderI nm) = false := rfl
  simp only [hw, Bool.not_false, if_true]
  exact wpAny_pure (wpAny_pure q)
theorem iand_own {y : Value} {op : Operator} {cd : ClassData} {rest : List Value} {Q : Value → Shared → Prop} (X : K.In s.heap) (J : PySem.W.InstAt s.heap x ox C od) (hc : PySem.W.clsIn K C = some cd) (hm : cd.mro = .ref C :: rest)
    (hs : PySem.W.findIn K (.ref C) (dunderI op.info.2) = some (some (.ref g))) (hf : PySem.W.isFn K (.ref g) = true)
    (h : wpAny (model prog w) A (call (.ref g) [.ref x, y]) (fun v s' => v ≠ .notImplemented ∧ Q v s') E s) : wpAny (model prog w) A (inplaceOp op (.ref x) y) Q E s := by
  unfold inplaceOp
  refine wpAny_holding ?_
  dsimp only
  refine wpAny_bind (J.type.here ?_)
  refine wpAny_bind ((fills_own (M := model prog w) (nm := op.info.2) X hc hm hs).here ?_)
  simp only [if_true]
  have main : wpAny (model prog w) A (tryMethod (.ref x) (dunderI op.info.2) y) (fun r s' => ∃ v, r = some v ∧ Q v s') E s := by
    unfold tryMethod
    refine wpAny_bind (spec (special X J hs) (PySem.W.bind_fn X _ (beq_iff_eq.mp hf)) (wpAny_mono h (fun v s' z => ?_) fun _ _ z => z))
    obtain ⟨n, q⟩ := z
    cases v <;> first | exact (n rfl).elim | exact wpAny_pure ⟨_, rfl, q⟩
  refine wpAny_bind (wpAny_mono main (fun r s' z => ?_) fun _ _ z => z)
  obtain ⟨v, rfl, q⟩ := z
  exact wpAny_bind (wpAny_rule (wpAny_pure q))
end
end OWN

/-! Own operators of a plain class as rules: o[i], o[i] = v, x in o, o &= p; list(o) and for x in o where __iter__ says iter of a dict. -/
namespace OWN
open PySem PySem.Spec PyProof.Rows L2
section
variable {X : Cx} {CX : CXT} {C g : Addr} {n : Nat} {sp : Sp} {E : XK} {ES : L2.St → XK}
abbrev ownF {P : Program} {w : World} {K : PySem.W.Frag} {mg : Str → Option Value} {base : Heap} {CX : CXT} {k : Nat} {f : Addr} {fd : FuncData} {ps : List Str} {sp : Sp} (F : FnOk P w K mg base CX k f fd ps sp) (b : Binds K fd ps []) : FnR P w K mg base CX k f (fun vs H Q E => sp (vs ++ []) H Q E) := F.raw b .nil
/-- the callee runs, what is raised wished for at the slots -/
theorem run_fnRS {pins : List (Addr × Obj)} {σ : L2.St} {H : Hp} {s : Shared} {Q : VK} {us : List Value} {vs : List V} (F : FnR X.prog X.w X.K X.mg X.base CX n g sp) (hr : Room n X.A) (hx : PassesAt CX X σ (ES σ)) (I : Inv X pins σ H s) (r : Vals vs us) (h : sp vs H Q (ES σ)) :
    wpAny (model X.prog X.w) X.A (call (.ref g) us) (EP X pins σ Q) X.xe s := by
  refine wpAny_call (codeAny_mono (F X.A X.stack s H us vs Q (ES σ) hr I.env0 r h) fun r s' hq => ?_)
  cases r with
  | error e => exact hx pins H s e s' I hq
  | ok fl =>
    cases fl with
    | ret u => exact I.after hq
    | next => exact False.elim hq
    | brk => exact False.elim hq
    | cont => exact False.elim hq
theorem passAll (hx : Passes CX X E) (σ : L2.St) : PassesAt CX X σ E := fun pins H s e s' I c => hx pins σ H s e s' I c
def rOwn2 (C : Addr) (sp : Sp) (E : XK) : R2 := fun x y H Q => ∃ a dx fs, x = .ref a ∧ H a = some (.ins C dx fs) ∧ sp [x, y] H Q E
/-- the callee runs within a built-in -/
theorem run_in1 {pins : List (Addr × Obj)} {σ : L2.St} {H : Hp} {s : Shared} {Q : VK} {us : List Value} {vs : List V} (F : FnR X.prog X.w X.K X.mg X.base CX n g sp) (hr : Room (n + 1) X.A) (hx : PassesAt CX X σ (ES σ)) (I : Inv X pins σ H s) (r : Vals vs us) (h : sp vs H Q (ES σ)) :
    wpAny (model X.prog X.w) X.A.in1 (call (.ref g) us) (EP X pins σ Q) X.xe s := by
  refine wpAny_call (codeAny_mono (F X.A.in1 X.stack s H us vs Q (ES σ) hr.in1 I.env0.in1 r h) fun r s' hq => ?_)
  cases r with
  | error e => exact hx pins H s e s' I hq
  | ok fl =>
    cases fl with
    | ret u => exact I.after hq
    | next => exact False.elim hq
    | brk => exact False.elim hq
    | cont => exact False.elim hq
/-- what stands as an index where the object's own def is asked -/
def OwnIx (b : Expr) : Prop := ∀ o i, subscripted b true o i = runValue (.builtin "lifetime.subscript" ⟨[o, i], []⟩)
/-- o[i], o an instance of an own class with __getitem__ -/
def tIxO (C : Addr) (sp : Sp) (ES : L2.St → XK) (ta tb : TE) : TE := fun σ H Q => ta σ H fun x H1 => tb σ H1 fun y H2 => rOwn2 C sp (ES σ) x y H2 Q
theorem pe_ixO {a b : Expr} {ta tb : TE} {pos : Pos} (m : Meth X.K C "__getitem__" g) (fi : PySem.W.fnIn X.K g = true) (F : FnR X.prog X.w X.K X.mg X.base CX n g sp) (hr : Room (n + 1) X.A) (hx : ∀ σ, PassesAt CX X σ (ES σ))
    (ha : PE X a ta) (hb : PE X b tb) (hs : OwnIx b) : PE X (.Subscript a b pos) (tIxO C sp ES ta tb) := by
  refine ⟨fun pins s σ H Q I h => ?_⟩
  refine Subscript_ (binT (R := fun x y H2 => rOwn2 C sp (ES σ) x y H2 Q) ha hb I h fun v u s2 x y H2 I2 rx ry q => ?_)
  obtain ⟨a, dx, fs, rfl, ha, q⟩ := q
  obtain rfl : v = Value.ref a := rx
  obtain ⟨mA, O, _⟩ := ins_get I2.hok ha
  obtain ⟨od, J, _⟩ := O.look
  obtain ⟨m0, hF⟩ := I2.fr
  exact PySem.W.sub_K hF I2.ok.mod.kin J m.at_ fi m.fn (run_in1 (us := [.ref a, u]) (vs := [.ref a, y]) F hr (hx σ) I2 (.cons rfl (.cons ry .nil)) q) (hs _ _)
/-- o[i] = v -/
def rSetO (C : Addr) (sp : Sp) (E : XK) : TSet := fun o i v H Q => ∃ a dx fs, o = .ref a ∧ H a = some (.ins C dx fs) ∧ sp [o, i, v] H (fun _ H' => Q H') E
theorem set_run {pins : List (Addr × Obj)} {σ : L2.St} {H : Hp} {s : Shared} {o i v : V} {ov iv u : Value} {Q : Hp → Prop} (m : Meth X.K C "__setitem__" g) (nd : PySem.W.mroIn X.K C (.type "collections.deque") = some false)
    (F : FnR X.prog X.w X.K X.mg X.base CX n g sp) (hr : Room n X.A) (hx : PassesAt CX X σ (ES σ)) (I : Inv X pins σ H s) (ro : RelV o ov) (ri : RelV i iv) (rv : RelV v u) (h : rSetO C sp (ES σ) o i v H Q) :
    wpAny (model X.prog X.w) X.A (setItem ov iv u) (fun _ s' => ∃ H', Inv X pins σ H' s' ∧ Q H') X.xe s := by
  obtain ⟨a, dx, fs, rfl, ha, q⟩ := h
  obtain rfl : ov = Value.ref a := ro
  obtain ⟨mA, O, _⟩ := ins_get I.hok ha
  obtain ⟨od, J, _⟩ := O.look
  have run := run_fnRS (us := [.ref a, iv, u]) (vs := [.ref a, i, v]) F hr hx I (.cons rfl (.cons ri (.cons rv .nil))) q
  refine setItem_own I.kIn J m.at_ m.fn nd (wpAny_mono run (fun r s' z => ?_) fun _ _ z => z)
  obtain ⟨v', H', I', _, q'⟩ := z
  exact ⟨H', I', q'⟩
theorem set_own (m : Meth X.K C "__setitem__" g) (nd : PySem.W.mroIn X.K C (.type "collections.deque") = some false) (F : FnR X.prog X.w X.K X.mg X.base CX n g sp) (hr : Room n X.A) (hx : Passes CX X E) : PSet X (rSetO C sp E) := by
  intro pins s σ H o i v ov iv u Q I ro ri rv h
  exact set_run (ES := fun _ => E) m nd F hr (passAll hx σ) I ro ri rv h
/-- x in o -/
def rInO (C : Addr) (sp : Sp) (E : XK) (neg : Bool) : R2 := fun x y H Q => ∃ a dx fs, y = .ref a ∧ H a = some (.ins C dx fs) ∧ sp [y, x] H (fun v H' => ∃ b, v = .bl b ∧ Q (.bl (b != neg)) H') E
theorem op_in_own (m : Meth X.K C "__contains__" g) (F : FnR X.prog X.w X.K X.mg X.base CX n g sp) (hr : Room n X.A) (hx : Passes CX X E) : OpR X (compareOp .In) (rInO C sp E false) := by
  intro pins s σ H x y v u Q I rx ry h
  obtain ⟨a, dx, fs, rfl, ha, q⟩ := h
  obtain rfl : u = Value.ref a := ry
  obtain ⟨mA, O, _⟩ := ins_get I.hok ha
  obtain ⟨od, J, _⟩ := O.look
  have run := run_fnRS (ES := fun _ => E) (us := [.ref a, v]) (vs := [.ref a, x]) F hr (passAll hx σ) I (.cons rfl (.cons rx .nil)) q
  show wpAny _ _ (contains (.ref a) v >>= fun b => pure (Value.bool b)) _ _ s
  refine wpAny_bind (contains_own I.kIn J m.at_ m.fn (wpAny_mono run (fun r s' z => ?_) fun _ _ z => z))
  obtain ⟨v', H', I', rv, b, rfl, q'⟩ := z
  obtain rfl : r = Value.bool b := rv
  refine ⟨b, rfl, wpAny_pure ⟨.bl b, H', I', rfl, ?_⟩⟩
  cases b <;> exact q'
theorem op_notin_own (m : Meth X.K C "__contains__" g) (F : FnR X.prog X.w X.K X.mg X.base CX n g sp) (hr : Room n X.A) (hx : Passes CX X E) : OpR X (compareOp .NotIn) (rInO C sp E true) := by
  intro pins s σ H x y v u Q I rx ry h
  obtain ⟨a, dx, fs, rfl, ha, q⟩ := h
  obtain rfl : u = Value.ref a := ry
  obtain ⟨mA, O, _⟩ := ins_get I.hok ha
  obtain ⟨od, J, _⟩ := O.look
  have run := run_fnRS (ES := fun _ => E) (us := [.ref a, v]) (vs := [.ref a, x]) F hr (passAll hx σ) I (.cons rfl (.cons rx .nil)) q
  show wpAny _ _ (contains (.ref a) v >>= fun b => pure (Value.bool (!b))) _ _ s
  refine wpAny_bind (contains_own I.kIn J m.at_ m.fn (wpAny_mono run (fun r s' z => ?_) fun _ _ z => z))
  obtain ⟨v', H', I', rv, b, rfl, q'⟩ := z
  obtain rfl : r = Value.bool b := rv
  refine ⟨b, rfl, wpAny_pure ⟨.bl (!b), H', I', rfl, ?_⟩⟩
  cases b <;> exact q'
/-- o op= y -/
def rIpO (C : Addr) (sp : Sp) (E : XK) : TIp := fun x y H Q => ∃ a dx fs, x = .ref a ∧ H a = some (.ins C dx fs) ∧ sp [x, y] H Q E
theorem ip_own {op : Operator} (hs : PySem.W.findIn X.K (.ref C) (dunderI op.info.2) = some (some (.ref g))) (hf : PySem.W.isFn X.K (.ref g) = true) (hm : ∃ cd rest, PySem.W.clsIn X.K C = some cd ∧ cd.mro = .ref C :: rest)
    (F : FnR X.prog X.w X.K X.mg X.base CX n g sp) (hr : Room n X.A) (hx : Passes CX X E) : PIp X op (rIpO C sp E) := by
  intro pins s σ H x y v u Q I rx ry h
  obtain ⟨a, dx, fs, rfl, ha, q⟩ := h
  obtain ⟨cd, rest, hc, hm⟩ := hm
  obtain rfl : v = Value.ref a := rx
  obtain ⟨mA, O, _⟩ := ins_get I.hok ha
  obtain ⟨od, J, _⟩ := O.look
  have run := run_fnRS (ES := fun _ => E) (us := [.ref a, u]) (vs := [.ref a, y]) F hr (passAll hx σ) I (.cons rfl (.cons ry .nil)) q
  refine iand_own I.kIn J hc hm hs hf (wpAny_mono run (fun r s' z => ⟨?_, z⟩) fun _ _ z => z)
  obtain ⟨v', H', I', rv, q'⟩ := z
  rintro rfl
  cases v' with
  | int _ => obtain ⟨_, e⟩ := rv; cases e
  | str _ => obtain ⟨_, e⟩ := rv; cases e
  | byt _ => obtain ⟨_, e⟩ := rv; cases e
  | flt _ => obtain ⟨_, e⟩ := rv; cases e
  | _ => cases rv
end
end OWN

/-! Books, apart from any law: the entries, their answers, dicts of texts by key lists and functions. -/
namespace BK
open PySem L2
abbrev ENT : List Str := ["read late", "read under", "read below", "read above", "write late", "write under", "write below", "write above", "write free passed", "write own passed", "write late passed", "write under passed", "write below passed", "write above passed"]
def chs (e : Str) : List Str :=
  if e = "read late" then ["last", "old", "abort"] else if e = "read under" then ["last", "old", "open", "wait", "abort"]
  else if e = "read below" ∨ e = "read above" then ["last", "open", "wait", "abort"] else if e = "write free passed" ∨ e = "write own passed" then ["put", "abort"]
  else if e = "write late" ∨ e = "write late passed" then ["skip", "abort"] else ["skip", "wait", "wound", "abort"]
theorem ent_nodup : ENT.Nodup := by decide +kernel
theorem ent_len : ENT.length = 14 := rfl
theorem chs_len (e : Str) : (chs e).length ≤ 5 ∧ 0 < (chs e).length := by
  unfold chs
  repeat' split
  all_goals decide
/-! ### membership by values -/
theorem eqV_str (a b : Str) : eqV (.str a) (.str b) = decide (a = b) := by
  show (a == b) = _
  by_cases h : a = b
  · subst h; simp
  · rw [decide_eq_false h]; exact beq_eq_false_iff_ne.mpr h
theorem inV_str (e : Str) (L : List Str) : inV (.str e) (L.map V.str) = decide (e ∈ L) := by
  unfold inV
  rw [List.any_map]
  by_cases h : e ∈ L
  · rw [decide_eq_true h, List.any_eq_true]
    exact ⟨e, h, by show eqV (.str e) (.str e) = true; rw [eqV_str]; exact decide_eq_true rfl⟩
  · rw [decide_eq_false h, List.any_eq_false]
    intro y hy z
    have z' : eqV (.str y) (.str e) = true := z
    rw [eqV_str] at z'
    exact h (of_decide_eq_true z' ▸ hy)
theorem inV_not {v : V} {L : List Str} (h : ∀ e, v = .str e → e ∉ L) : inV v (L.map V.str) = false := by
  cases v with
  | str e => rw [inV_str]; exact decide_eq_false (h e rfl)
  | _ => unfold inV; rw [List.any_map, List.any_eq_false]; intro y _ z; exact absurd z (by simp [eqV])
theorem flat_strs (L : List Str) : (L.map V.str).all flatV = true := by
  rw [List.all_eq_true]
  intro v hv
  obtain ⟨e, _, rfl⟩ := List.mem_map.mp hv
  rfl
/-! ### dicts from texts: their keys in order, and a function -/
def tab {α : Type} (g : α → V) (L : List Str) (f : Str → α) : List (Key × V) := L.map fun e => (Sum.inr e, g (f e))
def put {α : Type} (f : Str → α) (e : Str) (a : α) : Str → α := fun x => if x = e then a else f x
section
variable {α : Type} {g : α → V} {L : List Str} {f : Str → α} {e : Str} {a : α}
theorem put_same : put f e a e = a := if_pos rfl
theorem put_ne {x : Str} (h : x ≠ e) : put f e a x = f x := if_neg h
theorem tab_len : (tab g L f).length = L.length := List.length_map ..
theorem val_tab : ∀ {L : List Str}, valV (tab g L f) (Sum.inr e) = if e ∈ L then some (g (f e)) else none
  | [] => rfl
  | y :: L => by
    have ih := val_tab (L := L)
    unfold valV tab at ih ⊢
    rw [List.map_cons, List.find?_cons]
    by_cases h : y = e
    · subst h
      have d : decide ((Sum.inr y : Key) = Sum.inr y) = true := decide_eq_true rfl
      simp only [d]
      rw [if_pos (List.mem_cons_self ..)] <;> rfl
    · have d : decide ((Sum.inr y : Key) = Sum.inr e) = false := decide_eq_false fun q => h (Sum.inr.inj q)
      simp only [d]
      rw [ih]
      by_cases h2 : e ∈ L
      · rw [if_pos h2, if_pos (List.mem_cons_of_mem _ h2)]
      · rw [if_neg h2, if_neg fun z => (List.mem_cons.mp z).elim (fun q => h q.symm) h2]
theorem val_in (h : e ∈ L) : valV (tab g L f) (Sum.inr e) = some (g (f e)) := by rw [val_tab, if_pos h]
theorem val_out (h : e ∉ L) : valV (tab g L f) (Sum.inr e) = none := by rw [val_tab, if_neg h]
theorem any_tab : ((tab g L f).any fun kv => decide (kv.1 = Sum.inr e)) = decide (e ∈ L) := by
  unfold tab
  rw [List.any_map]
  by_cases h : e ∈ L
  · rw [decide_eq_true h, List.any_eq_true]
    exact ⟨e, h, decide_eq_true rfl⟩
  · rw [decide_eq_false h, List.any_eq_false]
    intro y hy z
    exact h (Sum.inr.inj (of_decide_eq_true z) ▸ hy)
theorem put_in (h : e ∈ L) : putK (tab g L f) (Sum.inr e) (g a) = tab g L (put f e a) := by
  unfold putK
  rw [any_tab, decide_eq_true h, if_pos rfl]
  unfold tab
  rw [List.map_map]
  refine List.map_congr_left fun y _ => ?_
  show (if (Sum.inr y : Key) = Sum.inr e then ((Sum.inr y : Key), g a) else (Sum.inr y, g (f y))) = (Sum.inr y, g (put f e a y))
  by_cases q : y = e
  · subst q
    rw [if_pos rfl, put_same]
  · rw [if_neg fun z => q (Sum.inr.inj z), put_ne q]
theorem put_new (h : e ∉ L) : putK (tab g L f) (Sum.inr e) (g a) = tab g (L ++ [e]) (put f e a) := by
  unfold putK
  rw [any_tab, decide_eq_false h, if_neg Bool.false_ne_true]
  unfold tab
  rw [List.map_append]
  have e1 : L.map (fun x => ((Sum.inr x : Key), g (f x))) = L.map (fun x => ((Sum.inr x : Key), g (put f e a x))) :=
    List.map_congr_left fun y hy => by rw [put_ne (x := y) fun q : y = e => h (q ▸ hy)]
  rw [e1]
  have e2 : [e].map (fun x => ((Sum.inr x : Key), g (put f e a x))) = [(Sum.inr e, g a)] := by
    show [((Sum.inr e : Key), g (put f e a e))] = _
    rw [put_same]
  rw [e2]
theorem tab_congr {f' : Str → α} (h : ∀ x ∈ L, f x = f' x) : tab g L f = tab g L f' := List.map_congr_left fun y hy => by rw [h y hy]
end
/-- a table of texts -/
abbrev tabS (L : List Str) (f : Str → Str) : List (Key × V) := tab V.str L f
theorem upd_swap {H : Hp} {a d : Addr} {o1 o2 o3 : HO} (h : d ≠ a) : upd (upd (upd H d o1) a o2) d o3 = upd (upd H d o3) a o2 := by
  funext b
  by_cases h1 : b = d
  · subst h1
    rw [upd_same, upd_ne h, upd_same]
  · rw [upd_ne h1]
    by_cases h2 : b = a
    · subst h2
      rw [upd_same, upd_same]
    · rw [upd_ne h2, upd_ne h2, upd_ne h1, upd_ne h1]
/-- d[k], d a written dict with text keys -/
def rIxKd (K : PySem.W.Frag) (d : Addr) : R2 := fun x y H Q => ∃ (z : Str) (u0 : Value) (v0 : V), x = .ref d ∧ y = .str z ∧ PySem.W.nsIn K d z = some (some u0) ∧ RelV v0 u0 ∧ Q v0 H
theorem ix_kd {X : Cx} {d : Addr} {es : Array DictEntry} {n : Nat} (D : KDict X.K X.w d es n) : IxR X (rIxKd X.K d) := by
  intro value slice pins s σ H x y v u Q I rx ry h hs
  obtain ⟨z, u0, v0, rfl, rfl, e, r, q⟩ := h
  obtain rfl : v = Value.ref d := rx
  obtain ⟨t, rfl⟩ := ry
  exact PyProof.Rows.tail_any (kd_type D I) slot_dict_getitem.lookup (wpAny_getItem_of (PySem.strKind_is X.prog X.w z t) (PySem.W.mapOf_K (prog := X.prog) I.kIn D.at_ D.lit) (PySem.W.find_K D.at_ e) ⟨v0, H, I.tok _, r, q⟩) hs
/-! ### the pairs of a given dict -/
def isAnsB (e : Str) : V → Bool
  | .str a => decide (a ∈ chs e)
  | _ => false
def okPair (q : Str × V) : Bool := decide (q.1 ∈ ENT) && isAnsB q.1 q.2
def fill : List (Str × V) → (Str → Str) → (Str → Str)
  | [], f => f
  | (e, .str a) :: r, f => fill r (put f e a)
  | (_, _) :: r, f => fill r f
def prs (gv : List (Str × V)) : List (Key × V) := gv.map fun q => (Sum.inr q.1, q.2)
theorem prs_len (gv : List (Str × V)) : (prs gv).length = gv.length := List.length_map ..
theorem prs_at {gv : List (Str × V)} {i : Nat} {k : Key} {v : V} (h : (prs gv)[i]? = some (k, v)) : ∃ e, gv[i]? = some (e, v) ∧ k = Sum.inr e := by
  unfold prs at h
  rw [List.getElem?_map] at h
  cases q : gv[i]? with
  | none => rw [q] at h; cases h
  | some p =>
    rw [q] at h
    cases h
    exact ⟨p.1, rfl, rfl⟩
theorem fill_snoc : ∀ {gv : List (Str × V)} {e a : Str} {f : Str → Str}, fill (gv ++ [(e, .str a)]) f = put (fill gv f) e a
  | [], _, _, _ => rfl
  | (e', .str a') :: r, e, a, f => fill_snoc (gv := r) (f := put f e' a')
  | (e', .non) :: r, e, a, f => fill_snoc (gv := r) (f := f)
  | (e', .bl _) :: r, e, a, f => fill_snoc (gv := r) (f := f)
  | (e', .int _) :: r, e, a, f => fill_snoc (gv := r) (f := f)
  | (e', .byt _) :: r, e, a, f => fill_snoc (gv := r) (f := f)
  | (e', .flt _) :: r, e, a, f => fill_snoc (gv := r) (f := f)
  | (e', .ref _) :: r, e, a, f => fill_snoc (gv := r) (f := f)
  | (e', .ty _) :: r, e, a, f => fill_snoc (gv := r) (f := f)
theorem fill_tab {L : List Str} (hL : L.Nodup) {t f : Str → Str} : ∀ x, fill (L.map fun e => (e, V.str (t e))) f x = if x ∈ L then t x else f x := by
  induction L generalizing f with
  | nil => intro x; rfl
  | cons e r ih =>
    intro x
    have nd := List.nodup_cons.mp hL
    show fill (r.map fun e => (e, V.str (t e))) (put f e (t e)) x = _
    rw [ih nd.2]
    by_cases h : x ∈ r
    · rw [if_pos h, if_pos (List.mem_cons_of_mem _ h)]
    · rw [if_neg h]
      by_cases q : x = e
      · subst q
        rw [put_same, if_pos (List.mem_cons_self ..)]
      · rw [put_ne q, if_neg fun z => (List.mem_cons.mp z).elim q h]
theorem tabS_prs {L : List Str} {f : Str → Str} : tabS L f = prs (L.map fun e => (e, V.str (f e))) := by
  unfold tabS tab prs
  rw [List.map_map]
  rfl
/-! ### books -/
/-- at b a book with the answers f, ends e, keep k; its own dict at dx, the answers' dict at d -/
structure Bk (C : Addr) (H : Hp) (b dx d : Addr) (f : Str → Str) (e : Str) (k : Int) : Prop where
  ins : H b = some (.ins C dx [(("_ends" : Str), .str e), (("_keep" : Str), .int k), (("_answers" : Str), .ref d)])
  tbl : H d = some (.dK (tabS ENT f))
theorem Bk.same {C : Addr} {H H' : Hp} {b dx d : Addr} {f : Str → Str} {e : Str} {k : Int} (h : Bk C H b dx d f e k) (s : Same H H') : Bk C H' b dx d f e k := ⟨s _ _ h.ins, s _ _ h.tbl⟩
theorem Bk.ne {C : Addr} {H : Hp} {b dx d : Addr} {f : Str → Str} {e : Str} {k : Int} (h : Bk C H b dx d f e k) : b ≠ d := fun z => by
  have := h.ins
  rw [z, h.tbl] at this
  cases this
/-- all but what stands at d is as it was -/
def But (d : Addr) (H H' : Hp) : Prop := ∀ b o, b ≠ d → H b = some o → H' b = some o
theorem But.upd {d : Addr} {H : Hp} {o : HO} : But d H (upd H d o) := fun b o' hb z => by rw [upd_ne hb]; exact z
theorem But.of {d : Addr} {H H' : Hp} (h : Same H H') : But d H H' := fun b o _ z => h b o z
theorem But.trans {d : Addr} {H H1 H2 : Hp} (a : But d H H1) (b : But d H1 H2) : But d H H2 := fun c o hc h => b c o hc (a c o hc h)
theorem But.same {d : Addr} {H H1 H2 : Hp} (a : But d H H1) (b : Same H1 H2) : But d H H2 := fun c o hc h => b c o (a c o hc h)
end BK

/-! The program's states apart from any law: items, who is over, bonds; what a step makes of them; how they lie in the heap. -/
namespace MIR
open PySem L2 CM BK
/-! ### lists -/
theorem nd_le {α : Type} [DecidableEq α] : ∀ {l u : List α}, l.Nodup → (∀ x ∈ l, x ∈ u) → l.length ≤ u.length
  | [], _, _, _ => Nat.zero_le _
  | x :: l, u, nd, sub => by
    obtain ⟨nx, nd'⟩ := List.nodup_cons.mp nd
    have hx : x ∈ u := sub x (List.mem_cons_self ..)
    have ih := nd_le (l := l) (u := u.erase x) nd' fun y hy => (List.mem_erase_of_ne fun e : y = x => nx (by rw [← e]; exact hy)).mpr (sub y (List.mem_cons_of_mem _ hy))
    rw [List.length_erase_of_mem hx] at ih
    have : 0 < u.length := List.length_pos_of_mem hx
    show l.length + 1 ≤ _
    omega
theorem sorted_ext : ∀ {l m : List Int}, l.Pairwise (· < ·) → m.Pairwise (· < ·) → (∀ x, x ∈ l ↔ x ∈ m) → l = m
  | [], [], _, _, _ => rfl
  | [], y :: m, _, _, h => absurd ((h y).mpr (List.mem_cons_self ..)) (by simp)
  | x :: l, [], _, _, h => absurd ((h x).mp (List.mem_cons_self ..)) (by simp)
  | x :: l, y :: m, hl, hm, h => by
    obtain ⟨hx, hl'⟩ := List.pairwise_cons.mp hl
    obtain ⟨hy, hm'⟩ := List.pairwise_cons.mp hm
    have e : x = y := by
      rcases List.mem_cons.mp ((h x).mp (List.mem_cons_self ..)) with e | hxm
      · exact e
      · rcases List.mem_cons.mp ((h y).mpr (List.mem_cons_self ..)) with e | hyl
        · exact e.symm
        · have := hx y hyl; have := hy x hxm; omega
    subst e
    refine congrArg _ (sorted_ext hl' hm' fun z => ⟨fun hz => ?_, fun hz => ?_⟩)
    · rcases List.mem_cons.mp ((h z).mp (List.mem_cons_of_mem _ hz)) with e | q
      · have := hx z hz; omega
      · exact q
    · rcases List.mem_cons.mp ((h z).mpr (List.mem_cons_of_mem _ hz)) with e | q
      · have := hy z hz; omega
      · exact q
theorem strict_of {l : List Int} (h : l.Pairwise (· ≤ ·)) (n : l.Nodup) : l.Pairwise (· < ·) :=
  (h.and n).imp fun {a b} ⟨h1, h2⟩ => by omega
theorem strict_nd {l : List Int} (h : l.Pairwise (· < ·)) : l.Nodup := h.imp fun {a b} h => by omega
/-- some ascending list of these -/
theorem perm_asc {l m : List Int} (p : m.Perm l) (s : m.Pairwise (· ≤ ·)) (n : l.Nodup) : m.Pairwise (· < ·) ∧ ∀ x, x ∈ m ↔ x ∈ l :=
  ⟨strict_of s (p.nodup_iff.mpr n), fun x => p.mem_iff⟩
/-! ### the model -/
structure It where
  kept : List (Int × Int)
  opn : Option (Int × Int)
  rd : Int
def it0 : It := ⟨[(0, 0)], none, 0⟩
structure S where
  it : Str → It
  ov : Int → Option Bool
  bd : Int → List Int
def s0 : S := ⟨fun _ => it0, fun _ => none, fun _ => []⟩
/-- all that fall when s is aborted -/
inductive Reach (σ : S) (s : Int) : Int → Prop
  | refl : Reach σ s s
  | step {t u : Int} : Reach σ s u → u ∈ σ.bd t → σ.ov t = none → Reach σ s t
def IsF (σ : S) (s : Int) (L : List Int) : Prop := L.Pairwise (· < ·) ∧ ∀ t, t ∈ L ↔ Reach σ s t
theorem IsF.uniq {σ : S} {s : Int} {L M : List Int} (a : IsF σ s L) (b : IsF σ s M) : L = M := sorted_ext a.1 b.1 fun x => (a.2 x).trans (b.2 x).symm
open Classical in
noncomputable def fal (σ : S) (s : Int) : List Int := if h : ∃ L, IsF σ s L then Classical.choose h else []
theorem fal_eq {σ : S} {s : Int} {L : List Int} (h : IsF σ s L) : fal σ s = L := by
  have e : ∃ L, IsF σ s L := ⟨L, h⟩
  unfold fal
  rw [dif_pos e]
  exact IsF.uniq (Classical.choose_spec e) h
/-- the ascending list of those in L -/
def IsAsc (L M : List Int) : Prop := M.Pairwise (· < ·) ∧ ∀ x, x ∈ M ↔ x ∈ L
theorem IsAsc.uniq {L M N : List Int} (a : IsAsc L M) (b : IsAsc L N) : M = N := sorted_ext a.1 b.1 fun x => (a.2 x).trans (b.2 x).symm
open Classical in
noncomputable def asc (L : List Int) : List Int := if h : ∃ M, IsAsc L M then Classical.choose h else []
theorem asc_eq {L M : List Int} (h : IsAsc L M) : asc L = M := by
  have e : ∃ M, IsAsc L M := ⟨M, h⟩
  unfold asc
  rw [dif_pos e]
  exact IsAsc.uniq (Classical.choose_spec e) h
def relI (L : List Int) (i : It) : It := match i.opn with
  | some (h, _) => if h ∈ L then { i with opn := none } else i
  | none => i
def fallS (σ : S) (L : List Int) : S := ⟨fun n => relI L (σ.it n), fun t => if t ∈ L then some false else σ.ov t, σ.bd⟩
def lastN {α : Type} (n : Nat) (l : List α) : List α := l.drop (l.length - n)
def setI (s : Int) (k : Nat) (i : It) : It := match i.opn with
  | some (h, v) => if h = s then { i with kept := lastN k (i.kept ++ [(s, v)]), opn := none } else i
  | none => i
def waitsOf (σ : S) (s : Int) : List Int := (σ.bd s).filter fun t => (σ.ov t).isNone
def commS (σ : S) (s : Int) (k : Nat) : S := ⟨fun n => setI s k (σ.it n), fun t => if t = s then some true else σ.ov t, σ.bd⟩
/-- what an outcome holds as its value -/
inductive OV where
  | non
  | int (v : Int)
  | tup (l : List Int)
structure Out where
  word : Str
  met : List Str
  val : OV
  fallen : List Int
def placeM (s w : Int) (h : Option Int) : Str := match h with
  | none => if w < s then "free" else "late"
  | some h => if h = s then "own" else if s < w then "under" else if s < h then "below" else "above"
def lastV (i : It) : Int × Int := i.kept.getLastD (0, 0)
def fixM (kind spot : Str) : Str := if kind = "write" then "put" else if spot = "free" then "last" else "open"
def metM (kind spot : Str) (passed : Bool) : Option Str :=
  if kind = "write" ∧ passed = true then some ("write " ++ spot ++ " passed") else if spot = "free" ∨ spot = "own" then none else some (kind ++ " " ++ spot)
def oldM (i : It) (s : Int) : List Int := (i.kept.filter fun p => decide (p.1 < s)).map (·.2)
def bindM (ends spot ans : Str) : Bool := decide (ends = "after") && if ans = "open" then decide (spot ≠ "own") else decide (ans = "skip") && (decide (spot = "below") || decide (spot = "above"))
def bondS (σ : S) (s h : Int) : S := if h ∈ σ.bd s then σ else { σ with bd := fun t => if t = s then σ.bd s ++ [h] else σ.bd t }
def itS (σ : S) (n : Str) (i : It) : S := { σ with it := fun m => if m = n then i else σ.it m }
def readS (σ : S) (n : Str) (s : Int) : S := if s ≤ (σ.it n).rd then σ else itS σ n { σ.it n with rd := s }
structure Bkm where
  f : Str → Str
  ends : Str
  keep : Nat
def hOf (i : It) : Option Int := i.opn.map (·.1)
def hInt (i : It) : Int := match i.opn with | some (h, _) => h | none => 0
def valM (i : It) (s : Int) (ans : Str) : OV :=
  if ans = "open" then (match i.opn with | some (_, v) => .int v | none => .non) else if ans = "old" then .int ((oldM i s).getLastD 0) else .int (lastV i).2
noncomputable def askM (B : Bkm) (σ : S) (kind : Str) (s : Int) (n : Str) (v : Int) : S × Out :=
  let i := σ.it n
  let spot := placeM s (lastV i).1 (hOf i)
  let e := metM kind spot (decide (i.rd > s))
  let met : List Str := match e with | none => [] | some e => [e]
  let ans : Str := match e with | none => fixM kind spot | some e => B.f e
  if ans = "wait" then (σ, ⟨"wait", met, .tup [hInt i], []⟩)
  else if ans = "wound" then (fallS σ (fal σ (hInt i)), ⟨"wound", met, .non, fal σ (hInt i)⟩)
  else if ans = "abort" ∨ (ans = "old" ∧ oldM i s = []) then (fallS σ (fal σ s), ⟨"abort", met, .non, fal σ s⟩)
  else
    let σ' := if bindM B.ends spot ans = true then bondS σ s (hInt i) else σ
    if kind = "read" then (readS σ' n s, ⟨"read", met, valM i s ans, []⟩)
    else if ans = "skip" then (σ', ⟨"skip", met, .non, []⟩)
    else (itS σ' n { i with opn := some (s, v) }, ⟨"put", met, .non, []⟩)
noncomputable def reqM (B : Bkm) (σ : S) (kind : Str) (s : Int) (n : Str) (v : Int) : S × Out :=
  let r := askM B σ kind s n v
  if r.2.word ≠ "wound" then r
  else if s ∈ r.2.fallen then (r.1, { r.2 with word := "abort" , val := .non })
  else
    let q := askM B r.1 kind s n v
    (q.1, ⟨q.2.word, r.2.met ++ q.2.met, q.2.val, asc (r.2.fallen ++ q.2.fallen)⟩)
inductive Stp where
  | req (kind : Str) (s : Int) (n : Str)
  | com (s : Int)
  | abo (s : Int)
def Stp.who : Stp → Int
  | .req _ s _ => s
  | .com s => s
  | .abo s => s
noncomputable def takeM (B : Bkm) (σ : S) (x : Stp) (v : Int) : S × Out :=
  if (σ.ov x.who).isSome = true then (σ, ⟨"void", [], .non, []⟩)
  else match x with
    | .com s => if waitsOf σ s ≠ [] then (σ, ⟨"wait", [], .tup (asc (waitsOf σ s)), []⟩) else (commS σ s B.keep, ⟨"commit", [], .non, []⟩)
    | .abo s => (fallS σ (fal σ s), ⟨"abort", [], .non, fal σ s⟩)
    | .req k s n => reqM B σ k s n v
/-! ### in the heap -/
inductive F2 {α β : Type} (R : α → β → Prop) : List α → List β → Prop
  | nil : F2 R [] []
  | cons {a b as bs} : R a b → F2 R as bs → F2 R (a :: as) (b :: bs)
section
variable {α β : Type} {R R' : α → β → Prop}
theorem F2.mono (h : ∀ a b, R a b → R' a b) : ∀ {as : List α} {bs : List β}, F2 R as bs → F2 R' as bs
  | _, _, .nil => .nil
  | _, _, .cons r t => .cons (h _ _ r) (t.mono h)
theorem F2.len : ∀ {as : List α} {bs : List β}, F2 R as bs → as.length = bs.length
  | _, _, .nil => rfl
  | _, _, .cons _ t => congrArg (· + 1) t.len
theorem F2.append : ∀ {as as' : List α} {bs bs' : List β}, F2 R as bs → F2 R as' bs' → F2 R (as ++ as') (bs ++ bs')
  | _, _, _, _, .nil, q => q
  | _, _, _, _, .cons r t, q => .cons r (t.append q)
theorem F2.drop (n : Nat) : ∀ {as : List α} {bs : List β}, F2 R as bs → F2 R (as.drop n) (bs.drop n) := by
  induction n with
  | zero => intro as bs h; exact h
  | succ n ih =>
    intro as bs h
    cases h with
    | nil => exact .nil
    | cons r t => exact ih t
theorem F2.take (n : Nat) : ∀ {as : List α} {bs : List β}, F2 R as bs → F2 R (as.take n) (bs.take n) := by
  induction n with
  | zero => intro as bs h; exact .nil
  | succ n ih =>
    intro as bs h
    cases h with
    | nil => exact .nil
    | cons r t => exact .cons r (ih t)
theorem F2.at {i : Nat} : ∀ {as : List α} {bs : List β}, F2 R as bs → ∀ {a : α}, as[i]? = some a → ∃ b, bs[i]? = some b ∧ R a b := by
  induction i with
  | zero =>
    intro as bs h a e
    cases h with
    | nil => cases e
    | cons r t => cases e; exact ⟨_, rfl, r⟩
  | succ i ih =>
    intro as bs h a e
    cases h with
    | nil => cases e
    | cons r t => exact ih t e
theorem F2.at' {i : Nat} : ∀ {as : List α} {bs : List β}, F2 R as bs → ∀ {b : β}, bs[i]? = some b → ∃ a, as[i]? = some a ∧ R a b := by
  induction i with
  | zero =>
    intro as bs h b e
    cases h with
    | nil => cases e
    | cons r t => cases e; exact ⟨_, rfl, r⟩
  | succ i ih =>
    intro as bs h b e
    cases h with
    | nil => cases e
    | cons r t => exact ih t e
theorem F2.snoc {as : List α} {bs : List β} {a : α} {b : β} (h : F2 R as bs) (r : R a b) : F2 R (as ++ [a]) (bs ++ [b]) := h.append (.cons r .nil)
end
/-- a pair of ints -/
def VerAt (H : Hp) (p : Addr) (v : Int × Int) : Prop := H p = some (.tup [.int v.1, .int v.2])
def KeptAt (H : Hp) (k : Addr) (vs : List (Int × Int)) : Prop := ∃ ps : List Addr, H k = some (.tup (ps.map V.ref)) ∧ F2 (VerAt H) ps vs
def hV (i : It) : V := match i.opn with | some (h, _) => .int h | none => .non
def vV (i : It) : V := match i.opn with | some (_, v) => .int v | none => .non
def ItAt (C : Addr) (H : Hp) (p : Addr) (i : It) : Prop := ∃ dx k, H p = some (.ins C dx [("kept", .ref k), ("holder", hV i), ("value", vV i), ("reader", .int i.rd)]) ∧ KeptAt H k i.kept
/-- an item that can be -/
structure WfI (U : List Int) (i : It) : Prop where
  ne : i.kept ≠ []
  le : i.kept.length ≤ 20
  ho : ∀ h v, i.opn = some (h, v) → h ∈ U
/-- at d a dict: what stands at each key -/
structure DR (H : Hp) (d : Addr) (P : Key → Option V → Prop) : Prop where
  ex : ∃ kvs : List (Key × V), H d = some (.dK kvs) ∧ (kvs.map (·.1)).Nodup ∧ ∀ k, P k (valV kvs k)
def ovS (b : Bool) : Str := if b then "committed" else "aborted"
def PStore (C : Addr) (U : List Int) (N : List Str) (H : Hp) (σ : S) : Key → Option V → Prop
  | .inr n, some v => ∃ q, v = .ref q ∧ n ∈ N ∧ ItAt C H q (σ.it n) ∧ WfI U (σ.it n)
  | .inr n, none => σ.it n = it0
  | .inl _, o => o = none
def POver (U : List Int) (σ : S) : Key → Option V → Prop
  | .inl t, some v => ∃ b, v = .str (ovS b) ∧ t ∈ U ∧ σ.ov t = some b
  | .inl t, none => σ.ov t = none
  | .inr _, o => o = none
def PBond (U : List Int) (H : Hp) (σ : S) : Key → Option V → Prop
  | .inl t, some v => ∃ q, v = .ref q ∧ t ∈ U ∧ H q = some (.tup ((σ.bd t).map V.int)) ∧ (σ.bd t).Nodup ∧ ∀ h ∈ σ.bd t, h ∈ U
  | .inl t, none => σ.bd t = []
  | .inr _, o => o = none
structure StAt (CS CI : Addr) (U : List Int) (N : List Str) (H : Hp) (p : Addr) (σ : S) : Prop where
  ex : ∃ dx ds dv db, H p = some (.ins CS dx [("store", .ref ds), ("over", .ref dv), ("bonds", .ref db)]) ∧ ds ≠ dv ∧ ds ≠ db ∧ dv ≠ db ∧
    DR H ds (PStore CI U N H σ) ∧ DR H dv (POver U σ) ∧ DR H db (PBond U H σ)
section
variable {H H' : Hp} {C CS CI p q k d : Addr} {i : It} {U : List Int} {N : List Str} {σ : S} {P P' : Key → Option V → Prop}
theorem VerAt.same {v : Int × Int} (h : VerAt H p v) (s : Same H H') : VerAt H' p v := s _ _ h
theorem KeptAt.same {vs : List (Int × Int)} (h : KeptAt H k vs) (s : Same H H') : KeptAt H' k vs := by
  obtain ⟨ps, h1, h2⟩ := h
  exact ⟨ps, s _ _ h1, h2.mono fun a b r => r.same s⟩
theorem ItAt.same (h : ItAt C H p i) (s : Same H H') : ItAt C H' p i := by
  obtain ⟨dx, k, h1, h2⟩ := h
  exact ⟨dx, k, s _ _ h1, h2.same s⟩
theorem DR.mono (h : DR H d P) (s : Same H H') (m : ∀ k o, P k o → P' k o) : DR H' d P' := by
  obtain ⟨kvs, h1, h2, h3⟩ := h.ex
  exact ⟨kvs, s _ _ h1, h2, fun k => m _ _ (h3 k)⟩
theorem PStore.same (s : Same H H') : ∀ k o, PStore C U N H σ k o → PStore C U N H' σ k o
  | .inr _, some _, ⟨q, h1, h2, h3, h4⟩ => ⟨q, h1, h2, h3.same s, h4⟩
  | .inr _, none, h => h
  | .inl _, _, h => h
theorem PBond.same (s : Same H H') : ∀ k o, PBond U H σ k o → PBond U H' σ k o
  | .inl _, some _, ⟨q, h1, h2, h3, h4⟩ => ⟨q, h1, h2, s _ _ h3, h4⟩
  | .inl _, none, h => h
  | .inr _, _, h => h
theorem StAt.same (h : StAt CS CI U N H p σ) (s : Same H H') : StAt CS CI U N H' p σ := by
  obtain ⟨dx, ds, dv, db, h1, n1, n2, n3, h2, h3, h4⟩ := h.ex
  exact ⟨dx, ds, dv, db, s _ _ h1, n1, n2, n3, h2.mono s (PStore.same s), h3.mono s fun _ _ z => z, h4.mono s (PBond.same s)⟩
end
/-- the value's object -/
def OvAt (H : Hp) (v : V) : OV → Prop
  | .non => v = .non
  | .int z => v = .int z
  | .tup l => ∃ q, v = .ref q ∧ H q = some (.tup (l.map V.int))
def OutAt (H : Hp) (p : Addr) (o : Out) : Prop := ∃ m v f, H p = some (.tup [.str o.word, .ref m, v, .ref f]) ∧ H m = some (.tup (o.met.map V.str)) ∧ OvAt H v o.val ∧ H f = some (.tup (o.fallen.map V.int))
theorem OvAt.same {H H' : Hp} {v : V} (s : Same H H') : ∀ {o : OV}, OvAt H v o → OvAt H' v o
  | .non, h => h
  | .int _, h => h
  | .tup _, ⟨q, h1, h2⟩ => ⟨q, h1, s _ _ h2⟩
theorem OutAt.same {H H' : Hp} {p : Addr} {o : Out} (h : OutAt H p o) (s : Same H H') : OutAt H' p o := by
  obtain ⟨m, v, f, h1, h2, h3, h4⟩ := h
  exact ⟨m, v, f, s _ _ h1, s _ _ h2, h3.same s, s _ _ h4⟩
/-- the pair (state, outcome) -/
def PairAt (CS CI : Addr) (U : List Int) (N : List Str) (H : Hp) (p : Addr) (r : S × Out) : Prop := ∃ a b, H p = some (.tup [.ref a, .ref b]) ∧ StAt CS CI U N H a r.1 ∧ OutAt H b r.2
end MIR

/-! Short texts: the mathematics, without any Python. -/
namespace TX
open PySem L2 TL
inductive Kd where
  | rd | wr | cm | ab
def Kd.sg : Kd → Nat
  | .rd => 114 | .wr => 119 | .cm => 99 | .ab => 97
def Kd.nm : Kd → Str
  | .rd => "read" | .wr => "write" | .cm => "commit" | .ab => "abort"
def Kd.has : Kd → Bool
  | .rd => true | .wr => true | .cm => false | .ab => false
theorem Kd.sg_nm (k : Kd) : (tl k.nm)[0]? = some k.sg := by cases k <;> decide +kernel
theorem Kd.nm_len (k : Kd) : k.nm.length ≤ 6 ∧ 0 < k.nm.length := by cases k <;> decide +kernel
def topN : Nat := 1000000000000000000000000000000
/-- the signs of a word -/
def wordL (k : Kd) (n : Nat) : List Nat := k.sg :: numL n
def word (p : Kd × Nat) : Str := ⟨(wordL p.1 p.2).toArray⟩
theorem tl_word (p : Kd × Nat) : tl (word p) = wordL p.1 p.2 := rfl
/-- a stamp's numeral -/
def numOk (d : List Nat) : Bool := decide (1 ≤ d.length) && decide (d.length ≤ 31) && !decide (d.head? = some 48) && d.all (fun c => decide (48 ≤ c) && decide (c ≤ 57)) && decide (NumText.digitsVal d ≤ topN)
def sgOk (c : Nat) : Bool := decide (c = 114) || decide (c = 119) || decide (c = 99) || decide (c = 97)
def wordOk : List Nat → Bool
  | c :: d => sgOk c && numOk d
  | [] => false
theorem numL_head {n : Nat} (h : 1 ≤ n) : (numL n).head? ≠ some 48 := by
  induction n using Nat.strongRecOn with
  | _ n ih =>
    by_cases h10 : n < 10
    · rw [numL_lt h10]
      intro e
      have e' : 48 + n = 48 := by simpa using e
      omega
    · rw [numL_step (by omega)]
      have r := ih (n / 10) (by omega) (by omega)
      have ne := numL_ne (n / 10)
      cases hq : numL (n / 10) with
      | nil => exact absurd hq ne
      | cons c r' =>
        rw [hq] at r
        exact r
theorem numL_all (n : Nat) : (numL n).all (fun c => decide (48 ≤ c) && decide (c ≤ 57)) = true := by
  rw [List.all_eq_true]
  intro c hc
  have r := numL_digits n c hc
  simp only [Bool.and_eq_true, decide_eq_true_eq]
  omega
theorem numL_len31 {n : Nat} (h : n ≤ topN) : (numL n).length ≤ 31 := numL_len (by decide) (Nat.lt_of_le_of_lt h (by decide))
theorem numOk_num {n : Nat} (h1 : 1 ≤ n) (h2 : n ≤ topN) : numOk (numL n) = true := by
  unfold numOk
  have a1 : 1 ≤ (numL n).length := by
    cases hq : numL n with
    | nil => exact absurd hq (numL_ne n)
    | cons c r => simp
  rw [decide_eq_true a1, decide_eq_true (numL_len31 h2), decide_eq_false (numL_head h1), numL_all, numL_val, decide_eq_true h2]
  rfl
theorem numOk_big {n : Nat} (h : topN < n) : numOk (numL n) = false := by
  unfold numOk
  rw [numL_val, decide_eq_false (show ¬ n ≤ topN by omega), Bool.and_false]
theorem sgOk_sg (k : Kd) : sgOk k.sg = true := by cases k <;> rfl
theorem wordOk_word {k : Kd} {n : Nat} (h1 : 1 ≤ n) (h2 : n ≤ topN) : wordOk (wordL k n) = true := by
  show (sgOk k.sg && numOk (numL n)) = true
  rw [sgOk_sg, numOk_num h1 h2]
  rfl
theorem word_len {k : Kd} {n : Nat} (h2 : n ≤ topN) : (wordL k n).length ≤ 32 := by
  show (numL n).length + 1 ≤ 32
  have := numL_len31 h2
  omega
theorem word_free {k : Kd} {n : Nat} : (32 : Nat) ∉ wordL k n := by
  intro h
  rcases List.mem_cons.mp h with h | h
  · cases k <;> cases h
  · exact numL_free (.inl (by decide)) h
/-! ### texts of words -/
abbrev sp : Str := " "
theorem tl_sp : tl sp = [32] := by decide +kernel
/-- the first piece of a word (a word with a blank in it is two) -/
def Heads (w b : List Nat) : Prop := (32 ∉ w ∧ b = w) ∨ ∃ x, w = b ++ 32 :: x ∧ 32 ∉ b
theorem spl_heads {w b : List Nat} (h : Heads w b) (post : List (List Nat)) : ∃ rest, spl [32] 0 [] (joinL [32] (w :: post)) = b :: rest := by
  rcases h with ⟨h, rfl⟩ | ⟨x, rfl, h⟩
  · cases post with
    | nil => exact ⟨[], by show spl [32] 0 [] b = _; rw [spl_last1 h]; rfl⟩
    | cons q r => exact ⟨_, spl_part1 (acc := []) (rest := joinL [32] (q :: r)) h⟩
  · cases post with
    | nil =>
      refine ⟨spl [32] 0 [] x, ?_⟩
      exact spl_part1 (acc := []) (rest := x) h
    | cons q r =>
      refine ⟨spl [32] 0 [] (x ++ ([32] ++ joinL [32] (q :: r))), ?_⟩
      have e : joinL [32] ((b ++ 32 :: x) :: q :: r) = b ++ ([32] ++ (x ++ ([32] ++ joinL [32] (q :: r)))) := by
        show (b ++ 32 :: x) ++ ([32] ++ joinL [32] (q :: r)) = _
        simp
      rw [e]
      exact spl_part1 (acc := []) h
theorem spl_pre {w b : List Nat} (h : Heads w b) (post : List (List Nat)) : ∀ {pre : List (List Nat)}, (∀ p ∈ pre, 32 ∉ p) → ∃ rest, spl [32] 0 [] (joinL [32] (pre ++ w :: post)) = pre ++ b :: rest
  | [], _ => spl_heads h post
  | p :: r, hp => by
    obtain ⟨rest, e⟩ := spl_pre h post (pre := r) fun z hz => hp z (List.mem_cons_of_mem _ hz)
    refine ⟨rest, ?_⟩
    have e2 : joinL [32] ((p :: r) ++ w :: post) = p ++ ([32] ++ joinL [32] (r ++ w :: post)) := by
      cases r with
      | nil => rfl
      | cons _ _ => rfl
    rw [e2]
    have z := spl_part1 (s := 32) (S := []) (acc := []) (rest := joinL [32] (r ++ w :: post)) (hp p (List.mem_cons_self ..))
    show spl [32] 0 [] (p ++ ([32] ++ joinL [32] (r ++ w :: post))) = p :: (r ++ b :: rest)
    rw [← e]
    exact z
theorem sp_ok : sp.cps.all (· < 256) = true := by decide +kernel
theorem split_tl (x : Str) : (Txt.split x sp).map tl = spl [32] 0 [] (tl x) := by
  rw [split_spl x sp (by rw [tl_sp]; simp) (kind_ok sp_ok), tl_sp]
theorem tl_joinS (ws : List Str) : tl (Txt.join sp ws) = joinL [32] (ws.map tl) := by rw [join_eq, tl_join, tl_sp]
theorem free_words {L : List (Kd × Nat)} : ∀ p ∈ (L.map word).map tl, (32 : Nat) ∉ p := by
  intro p hp
  obtain ⟨w, hw, rfl⟩ := List.mem_map.mp hp
  obtain ⟨q, _, rfl⟩ := List.mem_map.mp hw
  exact word_free
/-- a text of good words, split -/
theorem split_good {L : List (Kd × Nat)} (h : L ≠ []) : Txt.split (Txt.join sp (L.map word)) sp = L.map word :=
  split_join (s := 32) (S := []) tl_sp sp_ok (fun e => h (List.map_eq_nil_iff.mp e)) fun p hp => by
    obtain ⟨q, _, rfl⟩ := List.mem_map.mp hp
    exact word_free
/-- a text with a bad word behind good ones, split -/
theorem split_bad {L : List (Kd × Nat)} {w b : Str} (h : Heads (tl w) (tl b)) (post : List Str) : ∃ rest, Txt.split (Txt.join sp (L.map word ++ w :: post)) sp = L.map word ++ b :: rest := by
  obtain ⟨rest, e⟩ := spl_pre h (post.map tl) (free_words (L := L))
  refine ⟨rest.map fun l => ⟨l.toArray⟩, map_tl_inj ?_⟩
  rw [split_tl, tl_joinS, List.map_append, List.map_cons, e, List.map_append, List.map_cons, List.map_map]
  congr 2
  have : (tl ∘ fun l : List Nat => (⟨l.toArray⟩ : Str)) = id := by
    funext l
    rfl
  rw [List.map_map, this, List.map_id]
theorem joinL_len {c : Nat} : ∀ {ps : List (List Nat)}, (∀ p ∈ ps, p.length ≤ c) → (joinL [32] ps).length ≤ ps.length * (c + 1)
  | [], _ => Nat.zero_le _
  | [p], h => by
    have := h p (List.mem_singleton.mpr rfl)
    show p.length ≤ 1 * (c + 1)
    omega
  | p :: q :: r, h => by
    have h1 := h p (List.mem_cons_self ..)
    have h2 := joinL_len (ps := q :: r) fun z hz => h z (List.mem_cons_of_mem _ hz)
    show (p ++ ([32] ++ joinL [32] (q :: r))).length ≤ (r.length + 1 + 1) * (c + 1)
    rw [List.length_append, List.length_append]
    have e : (r.length + 1 + 1) * (c + 1) = (r.length + 1) * (c + 1) + (c + 1) := by rw [Nat.add_mul, Nat.one_mul]
    have h3 : ((q :: r).length) * (c + 1) = (r.length + 1) * (c + 1) := rfl
    rw [h3] at h2
    have h4 : ([32] : List Nat).length = 1 := rfl
    omega
theorem join_len {c : Nat} {ws : List Str} (h : ∀ w ∈ ws, w.length ≤ c) : (Txt.join sp ws).length ≤ ws.length * (c + 1) := by
  rw [len_tl, tl_joinS]
  have := joinL_len (c := c) (ps := ws.map tl) fun p hp => by
    obtain ⟨w, hw, rfl⟩ := List.mem_map.mp hp
    rw [← len_tl]
    exact h w hw
  rw [List.length_map] at this
  exact this
theorem sum_len {c : Nat} : ∀ {ws : List Str}, (∀ w ∈ ws, w.length ≤ c) → (ws.map (·.length)).sum ≤ ws.length * c
  | [], _ => Nat.zero_le _
  | w :: r, h => by
    have h1 := h w (List.mem_cons_self ..)
    have h2 := sum_len (ws := r) fun z hz => h z (List.mem_cons_of_mem _ hz)
    show w.length + (r.map (·.length)).sum ≤ (r.length + 1) * c
    rw [Nat.add_mul, Nat.one_mul]
    omega
/-- what is no word, and what is read of it -/
def BadW (w : Str) : Prop := w.length ≤ 100 ∧ ∃ b : Str, Heads (tl w) (tl b) ∧ wordOk (tl b) = false ∧ b.length ≤ 100
theorem badW_free {w : Str} (h : ¬ (32 : Nat) ∈ tl w) (o : wordOk (tl w) = false) (l : w.length ≤ 100) : BadW w := ⟨l, w, .inl ⟨h, rfl⟩, o, l⟩
def bads : List Str := ["w", "7", "W2", "x2", "w02", "r0", "c-1", "a+1", "w2x", "2w", "ww2", "r1_0", "c1.0", "w1\n"]
theorem bads_bad : ∀ w ∈ bads, BadW w := by
  intro w hw
  simp only [bads, List.mem_cons, List.not_mem_nil, or_false] at hw
  rcases hw with rfl | rfl | rfl | rfl | rfl | rfl | rfl | rfl | rfl | rfl | rfl | rfl | rfl | rfl
  all_goals exact badW_free (by decide +kernel) (by decide +kernel) (by decide +kernel)
theorem bad_write : BadW "write" := badW_free (by decide +kernel) (by decide +kernel) (by decide +kernel)
theorem bad_empty : BadW "" := badW_free (by decide +kernel) (by decide +kernel) (by decide +kernel)
theorem bad_a00 : BadW "a00" := badW_free (by decide +kernel) (by decide +kernel) (by decide +kernel)
theorem bad_w2 : BadW "w 2" := ⟨by decide +kernel, "w", .inr ⟨[50], by decide +kernel, by decide +kernel⟩, by decide +kernel, by decide +kernel⟩
theorem bad_big {n : Nat} (h : topN < n) (h2 : n < 10 ^ 45) : BadW (⟨(114 :: numL n).toArray⟩ : Str) := by
  have hl : (numL n).length ≤ 45 := numL_len (by decide) h2
  have l : (⟨(114 :: numL n).toArray⟩ : Str).length ≤ 100 := by
    rw [len_tl]
    show (numL n).length + 1 ≤ 100
    omega
  refine badW_free ?_ ?_ l
  · intro z
    rcases List.mem_cons.mp z with z | z
    · cases z
    · exact numL_free (.inl (by decide)) z
  · show (sgOk 114 && numOk (numL n)) = false
    rw [numOk_big h, Bool.and_false]
end TX

namespace K11
open PySem L2 SI CM BK OWN MIR StX TX TL
section
variable {w : World} {K : PySem.W.Frag} {mg : Str → Option Value} {base : Heap} (T : Txt w K mg)
/-- all but p stays -/
def ButP (p : Addr) (H H' : Hp) : Prop := ∀ b o, b ≠ p → H b = some o → H' b = some o
def spItemI (C : Addr) : Sp := fun vs H Q _ => ∃ p dx a b c r, vs = [.ref p, a, b, c, r] ∧ H p = some (.ins C dx []) ∧ ∀ H', ButP p H H' → H' p = some (.ins C dx [("kept", a), ("holder", b), ("value", c), ("reader", r)]) → Q .non H'
theorem ok_Item_init : FnOk PP w K mg base CX0 1 T.f_Item_init T.d_Item_init ["self", "kept", "holder", "value", "reader"] (spItemI T.c_Item) := by
  refine T.F_Item_init.ok sc_Item_init (fun vs H Q E h => ?_) (fun cdv A outer s H vs Q E hr h => ?_)
  · obtain ⟨p, dx, a, b, c, r, rfl, _⟩ := h
    rfl
  · obtain ⟨p, dx, a, b, c, r, rfl, hp, k⟩ := h
    refine ⟨_, pss_cons (ps_fld (pv 0) (pv 1) rfl)
 (pss_cons (ps_fld (pv 0) (pv 2) rfl)
 (pss_cons (ps_fld (pv 0) (pv 3) rfl)
 (pss_one (ps_fld (pv 0) (pv 4) rfl)))), ?_⟩
    refine ⟨_, rfl, _, rfl, p, T.c_Item, dx, _, rfl, hp, T.cl_Item, T.na_Item_kept, by show 0 < 1000; decide, ?_⟩
    refine ⟨_, rfl, _, rfl, p, T.c_Item, dx, _, rfl, upd_same, T.cl_Item, T.na_Item_holder, by show 1 < 1000; decide, ?_⟩
    refine ⟨_, rfl, _, rfl, p, T.c_Item, dx, _, rfl, upd_same, T.cl_Item, T.na_Item_value, by show 2 < 1000; decide, ?_⟩
    refine ⟨_, rfl, _, rfl, p, T.c_Item, dx, _, rfl, upd_same, T.cl_Item, T.na_Item_reader, by show 3 < 1000; decide, ?_⟩
    exact k _ (fun x o n z => by rw [upd_ne n, upd_ne n, upd_ne n, upd_ne n]; exact z) upd_same
def spStateI (C : Addr) : Sp := fun vs H Q _ => ∃ p dx a b c, vs = [.ref p, a, b, c] ∧ H p = some (.ins C dx []) ∧ ∀ H', ButP p H H' → H' p = some (.ins C dx [("store", a), ("over", b), ("bonds", c)]) → Q .non H'
theorem ok_State_init : FnOk PP w K mg base CX0 1 T.f_State_init T.d_State_init ["self", "store", "over", "bonds"] (spStateI T.c_State) := by
  refine T.F_State_init.ok sc_State_init (fun vs H Q E h => ?_) (fun cdv A outer s H vs Q E hr h => ?_)
  · obtain ⟨p, dx, a, b, c, rfl, _⟩ := h
    rfl
  · obtain ⟨p, dx, a, b, c, rfl, hp, k⟩ := h
    refine ⟨_, pss_cons (ps_fld (pv 0) (pv 1) rfl)
 (pss_cons (ps_fld (pv 0) (pv 2) rfl)
 (pss_one (ps_fld (pv 0) (pv 3) rfl))), ?_⟩
    refine ⟨_, rfl, _, rfl, p, T.c_State, dx, _, rfl, hp, T.cl_State, T.na_State_store, by show 0 < 1000; decide, ?_⟩
    refine ⟨_, rfl, _, rfl, p, T.c_State, dx, _, rfl, upd_same, T.cl_State, T.na_State_over, by show 1 < 1000; decide, ?_⟩
    refine ⟨_, rfl, _, rfl, p, T.c_State, dx, _, rfl, upd_same, T.cl_State, T.na_State_bonds, by show 2 < 1000; decide, ?_⟩
    exact k _ (fun x o n z => by rw [upd_ne n, upd_ne n, upd_ne n]; exact z) upd_same
theorem mk_item {C : Addr} {H : Hp} {a b c r : V} {R : VK} {x dx : Addr} (nx : H x = none) (ndx : H dx = none)
    (h : ∀ H', Same H H' → H' x = some (.ins C dx [("kept", a), ("holder", b), ("value", c), ("reader", r)]) → R .non H') :
    spItemI C [.ref x, a, b, c, r] (upd (upd H dx (.own x)) x (.ins C dx [])) R E0 := by
  refine ⟨x, dx, a, b, c, r, rfl, upd_same, fun H' bt hx => h H' (fun q o z => bt q o (ne_of_none z nx) ?_) hx⟩
  rw [upd_ne (ne_of_none z nx), upd_ne (ne_of_none z ndx)]
  exact z
theorem mk_state {C : Addr} {H : Hp} {a b c : V} {R : VK} {x dx : Addr} (nx : H x = none) (ndx : H dx = none)
    (h : ∀ H', Same H H' → H' x = some (.ins C dx [("store", a), ("over", b), ("bonds", c)]) → R .non H') :
    spStateI C [.ref x, a, b, c] (upd (upd H dx (.own x)) x (.ins C dx [])) R E0 := by
  refine ⟨x, dx, a, b, c, rfl, upd_same, fun H' bt hx => h H' (fun q o z => bt q o (ne_of_none z nx) ?_) hx⟩
  rw [upd_ne (ne_of_none z nx), upd_ne (ne_of_none z ndx)]
  exact z
def spFirst (CS CI : Addr) : Sp := fun vs H Q _ => vs = [] ∧ ∀ H' p, Same H H' → H p = none → (∀ U N, StAt CS CI U N H' p s0) → Q (.ref p) H'
theorem dr_nil {H : Hp} {d : Addr} {P : Key → Option V → Prop} (h : H d = some (.dK [])) (p : ∀ k, P k none) : DR H d P := ⟨[], h, List.nodup_nil, p⟩
theorem ok_first : FnOk PP w K mg base CX0 3 T.f_first_state T.d_first_state [] (spFirst T.c_State T.c_Item) := by
  refine T.F_first_state.ok sc_first_state (fun vs H Q E h => ?_) (fun cdv A outer s H vs Q E hr h => ?_)
  · obtain ⟨rfl, _⟩ := h
    rfl
  · obtain ⟨rfl, k⟩ := h
    refine ⟨_, pss_one (ps_ret (pe_make T.mk_State (ok_State_init T) (hr.mono (by decide)) (by rfl) T.g_State (b_State_init T) .nil pass0 (pa_cons pe_dnewK (pa_cons pe_dnewK (pa_cons pe_dnewK pa_nil))))), ?_⟩
    refine fun ds nds dv ndv db ndb x dx nx ndx ne => mk_state nx ndx fun H' sm hx => ⟨rfl, k H' x ?_ ?_ fun U N => ⟨dx, ds, dv, db, hx, ?_, ?_, ?_, ?_, ?_, ?_⟩⟩
    · exact (same_new (same_new (same_new (Same.refl H) nds) ndv) ndb).trans sm
    · exact ((same_new (same_new (same_new (Same.refl H) nds) ndv) ndb)).free nx
    · exact ne_of_none upd_same ndv
    · exact ne_of_none (kp ndv upd_same) ndb
    · exact ne_of_none upd_same ndb
    · exact dr_nil (sm _ _ (kp ndb (kp ndv upd_same))) fun k => by cases k <;> rfl
    · exact dr_nil (sm _ _ (kp ndb upd_same)) fun k => by cases k <;> rfl
    · exact dr_nil (sm _ _ upd_same) fun k => by cases k <;> rfl
/-- the item of a name -/
def spItemOf (CS CI : Addr) : Sp := fun vs H Q _ => ∃ p n U N σ, vs = [.ref p, .str n] ∧ StAt CS CI U N H p σ ∧ ∀ H' q, Same H H' → ItAt CI H' q (σ.it n) → WfI U (σ.it n) → Q (.ref q) H'
theorem wf0 {U : List Int} : WfI U it0 := { ne := (by intro z; cases z), le := (by decide), ho := (fun h v z => by cases z) }
theorem ok_item_of : FnOk PP w K mg base CX0 3 T.f_item_of T.d_item_of ["state", "name"] (spItemOf T.c_State T.c_Item) := by
  refine T.F_item_of.ok sc_item_of (fun vs H Q E h => ?_) (fun cdv A outer s H vs Q E hr h => ?_)
  · obtain ⟨p, n, U, N, σ, rfl, _⟩ := h
    rfl
  · obtain ⟨p, n, U, N, σ, rfl, st, k⟩ := h
    refine ⟨_, pss_cons (ps_if (pt_cmp (pc_din (hu_of hr) (pv 1) (pe_fld (pv 0) rfl)))
 (pss_one (ps_ret (pe_dget (hu_of hr) (pe_fld (pv 0) rfl) (pv 1) (fun _ _ => rfl))))
 pss_nil)
 (pss_one (ps_ret (pe_make T.mk_Item (ok_Item_init T) (hr.mono (by decide)) (by rfl) T.g_Item (b_Item_init T) .nil pass0 (pa_cons (pe_tup (pa_cons (pe_tup (pa_cons pe_int (pa_cons pe_int pa_nil))) pa_nil)) (pa_cons pe_non (pa_cons pe_non (pa_cons pe_int pa_nil))))))), ?_⟩
    obtain ⟨dx, ds, dv, db, hp, n1, n2, n3, D1, D2, D3⟩ := st.ex
    obtain ⟨kvs, hd, nd, hP⟩ := D1.ex
    have g := DGet.k (k := Sum.inr n) hd
    have hn := hP (.inr n)
    refine ⟨_, rfl, _, rfl, p, T.c_State, dx, _, _, rfl, hp, T.cl_State, T.na_State_store, rfl, ds, _, rfl, g, ?_⟩
    cases e : valV kvs (Sum.inr n) with
    | some v =>
      rw [e] at hn g
      obtain ⟨q, rfl, _, hq, wf⟩ := hn
      exact ⟨_, rfl, iteT ⟨_, rfl, p, T.c_State, dx, _, _, rfl, hp, T.cl_State, T.na_State_store, rfl, _, rfl, ds, _, rfl, g, k H q (Same.refl H) hq wf⟩⟩
    | none =>
      rw [e] at hn
      have hn : σ.it n = it0 := hn
      have two : 2 ≤ sizeLine := by decide
      have one : 1 ≤ sizeLine := by decide
      refine ⟨_, rfl, iteF ⟨two, fun t nt => ⟨one, fun u nu x dx' nx ndx ne => mk_item nx ndx fun H' sm hx => ⟨rfl, k H' x ?_ ?_ ?_⟩⟩⟩⟩
      · exact (same_new (same_new (Same.refl H) nt) nu).trans sm
      · rw [hn]
        exact ⟨dx', u, hx, [t], sm _ _ upd_same, .cons (sm _ _ (kp nu upd_same)) .nil⟩
      · rw [hn]; exact wf0
end
end K11

/-! Dict comprehensions over any walk, what stays while a dict is locked, dicts made key by key. -/
namespace MIR
open PySem L2 CM BK
section
variable {J : It} {n : Nat} {G : Hp → Prop} {Y : Nat → Hp → V → Hp → Prop}
/-- a dict comprehension over a walk: Pv by the turn and the heap, the new dict at D within -/
theorem dc_it {J : L2.It} (w : Walk J n G Y) {g : TG} {tt : TT} {tk tv : TE} {vs : List Nat} {σ : L2.St} {H1 : Hp} {D : Addr} {Qd : Hp → Prop} (Pv : Nat → Hp → Prop) (h0 : Pv 0 (upd H1 D (.dK []))) (hG : ∀ i H, i ≤ n → Pv i H → G H)
    (hs : ∀ i x H H', i < n → Pv i H → Y i H x H' → g x (wipe σ vs) H' fun σ2 H2 => wipe σ2 vs = wipe σ vs ∧ tt σ2 H2 fun b H3 =>
      if b = true then tk σ2 H3 fun y H4 => tv σ2 H4 fun z H5 => ∃ kvs k, y = kV k ∧ H5 D = some (.dK kvs) ∧ kvs.length < sizeLine ∧ Pv (i + 1) (upd H5 D (.dK (putK kvs k z))) else Pv (i + 1) H3) (hd : ∀ H, Pv n H → Qd H) :
    ∃ W : Nat → Nat → Hp → Prop, (∃ m, W 0 m (upd H1 D (.dK []))) ∧ ∀ i m H, W i m H →
      (J.stop i H ∧ Qd H) ∨ (J.go i H ∧ ∃ Nx : Hp → Prop, (∀ H', Nx H' → ∃ m', m' < m ∧ W (i + 1) m' H') ∧ ∀ x H', J.yld i H x H' → g x (wipe σ vs) H' fun σ2 H2 => wipe σ2 vs = wipe σ vs ∧ tt σ2 H2 fun b H3 =>
        if b = true then tk σ2 H3 fun y H4 => tv σ2 H4 fun z H5 => ∃ kvs k, y = kV k ∧ H5 D = some (.dK kvs) ∧ kvs.length < sizeLine ∧ Nx (upd H5 D (.dK (putK kvs k z))) else Nx H3) := by
  refine ⟨fun i m H => i ≤ n ∧ m + i = n ∧ Pv i H, ⟨n, Nat.zero_le _, rfl, h0⟩, fun i m H ⟨hi, e, p⟩ => ?_⟩
  have gg := hG i H hi p
  rcases Nat.lt_or_ge i n with h | h
  · exact .inr ⟨w.goes i H h gg, Pv (i + 1), fun H' q => ⟨n - (i + 1), by omega, by omega, by omega, q⟩, fun x H' y => hs i x H H' h p (w.yields i H x H' h gg y)⟩
  · obtain rfl : i = n := Nat.le_antisymm hi h
    exact .inl ⟨w.stops H gg, hd H p⟩
end
/-- what never changes -/
def Stab : HO → Prop
  | .ins _ _ _ => True
  | .tup _ => True
  | _ => False
def SameT (H H' : Hp) : Prop := ∀ b o, Stab o → H b = some o → H' b = some o
section
variable {H H' H'' : Hp} {C p q k d : Addr} {i : It}
theorem SameT.of (s : Same H H') : SameT H H' := fun b o _ h => s b o h
theorem SameT.refl : SameT H H := fun _ _ _ h => h
theorem SameT.trans (s : SameT H H') (t : SameT H' H'') : SameT H H'' := fun b o z h => t b o z (s b o z h)
theorem SameT.chg {o o' : HO} (h : H p = some o) (n : ¬ Stab o) : SameT H (upd H p o') := fun b x z e => by
  rw [upd_ne (fun q => by subst q; rw [h] at e; cases e; exact n z)]
  exact e
theorem SameT.new {o' : HO} (h : H p = none) : SameT H (upd H p o') := fun b x z e => by
  rw [upd_ne (ne_of_none e h)]
  exact e
theorem KeptAt.sameT {vs : List (Int × Int)} (h : KeptAt H k vs) (s : SameT H H') : KeptAt H' k vs := by
  obtain ⟨ps, h1, h2⟩ := h
  exact ⟨ps, s _ _ trivial h1, h2.mono fun a b r => s a (.tup [.int b.1, .int b.2]) trivial r⟩
theorem ItAt.sameT (h : ItAt C H p i) (s : SameT H H') : ItAt C H' p i := by
  obtain ⟨dx, k, h1, h2⟩ := h
  exact ⟨dx, k, s _ _ trivial h1, h2.sameT s⟩
theorem OvAt.sameT {v : V} (s : SameT H H') : ∀ {o : OV}, OvAt H v o → OvAt H' v o
  | .non, h => h
  | .int _, h => h
  | .tup _, ⟨q, h1, h2⟩ => ⟨q, h1, s _ _ trivial h2⟩
theorem OutAt.sameT {o : Out} (h : OutAt H p o) (s : SameT H H') : OutAt H' p o := by
  obtain ⟨m, v, f, h1, h2, h3, h4⟩ := h
  exact ⟨m, v, f, s _ _ trivial h1, s _ _ trivial h2, h3.sameT s, s _ _ trivial h4⟩
end
/-- while the thing at d is locked -/
structure LockS (d : Addr) (od : Obj) (u : HO) (H H' : Hp) : Prop where
  at_ : H' d = some (.frz od u)
  but : ∀ b o, b ≠ d → H b = some o → H' b = some o
section
variable {d p : Addr} {od : Obj} {u : HO} {H H' H'' : Hp}
theorem LockS.start : LockS d od u H (upd H d (.frz od u)) := ⟨upd_same, fun b o n h => by rw [upd_ne n]; exact h⟩
theorem LockS.same (l : LockS d od u H H') (s : Same H' H'') : LockS d od u H H'' := ⟨s _ _ l.at_, fun b o n h => s _ _ (l.but b o n h)⟩
theorem LockS.new (l : LockS d od u H H') {o : HO} (h : H' p = none) : LockS d od u H (upd H' p o) := l.same (CM.same_new (Same.refl _) h)
/-- a thing that is not in H is changed -/
theorem LockS.put (l : LockS d od u H H') {o : HO} (h : H p = none) (n : p ≠ d) : LockS d od u H (upd H' p o) :=
  ⟨by rw [upd_ne n.symm]; exact l.at_, fun b x nb z => by rw [upd_ne (ne_of_none z h)]; exact l.but b x nb z⟩
theorem LockS.free (l : LockS d od u H H') (h : H' p = none) (hd : H d = some u) : H p = none := by
  cases e : H p with
  | none => rfl
  | some o =>
    by_cases q : p = d
    · rw [q, l.at_] at h; cases h
    · rw [l.but p o q e] at h; cases h
theorem LockS.unlock (l : LockS d od u H H') (hd : H d = some u) : Same H (upd H' d u) := fun b o h => by
  by_cases q : b = d
  · rw [q, upd_same, ← hd, ← q]; exact h
  · rw [upd_ne q]; exact l.but b o q h
end
/-- a dict made along the keys of another one -/
structure Made (kvs nkv : List (Key × V)) (i : Nat) (R : Key → V → Prop) : Prop where
  keys : nkv.map (·.1) = (kvs.take i).map (·.1)
  vals : ∀ x ∈ nkv, R x.1 x.2
section
variable {kvs nkv : List (Key × V)} {i : Nat} {R R' : Key → V → Prop} {k : Key} {v z : V}
theorem Made.nil : Made kvs [] 0 R := ⟨rfl, fun x h => by cases h⟩
theorem Made.mono (m : Made kvs nkv i R) (h : ∀ k v, R k v → R' k v) : Made kvs nkv i R' := ⟨m.keys, fun x q => h _ _ (m.vals x q)⟩
theorem keys_take (h : kvs[i]? = some (k, v)) : (kvs.take (i + 1)).map (·.1) = (kvs.take i).map (·.1) ++ [k] := by
  rw [List.take_add_one, h, List.map_append]; rfl
theorem key_new (nd : (kvs.map (·.1)).Nodup) (h : kvs[i]? = some (k, v)) : k ∉ (kvs.take i).map (·.1) := by
  intro z
  have e := keys_take h
  have s : ((kvs.take (i + 1)).map (·.1)).Nodup := by
    rw [List.map_take]
    exact nd.sublist (List.take_sublist _ _)
  rw [e] at s
  exact (List.nodup_append.mp s).2.2 k z k (List.mem_singleton.mpr rfl) rfl
theorem Made.step (m : Made kvs nkv i R) (nd : (kvs.map (·.1)).Nodup) (h : kvs[i]? = some (k, v)) (r : R k z) : Made kvs (putK nkv k z) (i + 1) R := by
  have nk : k ∉ nkv.map (·.1) := by rw [m.keys]; exact key_new nd h
  have vn : valV nkv k = none := by
    cases e : valV nkv k with
    | none => rfl
    | some y => exact absurd (valV_in e) nk
  rw [putK_new z vn]
  refine ⟨by rw [List.map_append, m.keys, keys_take h]; rfl, fun x hx => ?_⟩
  rcases List.mem_append.mp hx with hx | hx
  · exact m.vals x hx
  · rw [List.mem_singleton.mp hx]; exact r
theorem Made.len (m : Made kvs nkv i R) : nkv.length ≤ kvs.length := by
  have e := congrArg List.length m.keys
  rw [List.length_map, List.length_map, List.length_take] at e
  omega
theorem Made.done (m : Made kvs nkv kvs.length R) (nd : (kvs.map (·.1)).Nodup) : (nkv.map (·.1)).Nodup ∧ (∀ k, valV nkv k = none ↔ valV kvs k = none) ∧ ∀ k v, valV nkv k = some v → R k v := by
  have e := m.keys
  rw [List.take_length] at e
  have nd' : (nkv.map (·.1)).Nodup := by rw [e]; exact nd
  have ino : ∀ {l : List (Key × V)} {k : Key}, valV l k = none ↔ k ∉ l.map (·.1) := fun {l k} => ⟨fun h => valV_not h, fun h => by
    cases q : valV l k with
    | none => rfl
    | some y => exact absurd (valV_in q) h⟩
  refine ⟨nd', fun k => by rw [ino, ino, e], fun k v h => ?_⟩
  have hk := valV_in h
  obtain ⟨x, hx, ex⟩ := List.mem_map.mp hk
  have z := val_nodup nd' x hx
  rw [ex] at z
  rw [h] at z
  have r := m.vals x hx
  rw [ex, ← Option.some.inj z] at r
  exact r
theorem val_at (nd : (kvs.map (·.1)).Nodup) (h : kvs[i]? = some (k, v)) : valV kvs k = some v := val_nodup nd (k, v) (List.mem_of_getElem? h)
theorem nd_put (nd : (kvs.map (·.1)).Nodup) : ((putK kvs k v).map (·.1)).Nodup := by
  cases e : valV kvs k with
  | none => exact nd_putK v nd e
  | some y =>
    have : putK kvs k v = kvs.map fun kv => if kv.1 = k then (kv.1, v) else kv := by
      unfold putK
      rw [valV_any, e]; rfl
    rw [this, List.map_map]
    have f : (fun kv : Key × V => (if kv.1 = k then (kv.1, v) else kv).1) = fun kv => kv.1 := by
      funext kv; split <;> rfl
    have : List.map ((fun x : Key × V => x.1) ∘ fun kv => if kv.1 = k then (kv.1, v) else kv) kvs = kvs.map (·.1) := congrArg (fun g => List.map g kvs) f
    rw [this]
    exact nd
/-- a dict's size by what its keys are among -/
theorem len_keys {α : Type} [DecidableEq α] {U : List α} (f : α → Key) (nd : (kvs.map (·.1)).Nodup) (h : ∀ x ∈ kvs, ∃ a ∈ U, x.1 = f a) : kvs.length ≤ U.length := by
  have := nd_le (l := kvs.map (·.1)) (u := U.map f) nd fun x hx => by
    obtain ⟨y, hy, e⟩ := List.mem_map.mp hx
    obtain ⟨a, ha, e2⟩ := h y hy
    exact List.mem_map.mpr ⟨a, ha, by rw [← e2]; exact e⟩
  rwa [List.length_map, List.length_map] at this
end
section
variable {H : Hp} {C d : Addr} {U : List Int} {N : List Str} {σ : S} {kvs : List (Key × V)}
theorem len_store (nd : (kvs.map (·.1)).Nodup) (h : ∀ k, PStore C U N H σ k (valV kvs k)) : kvs.length ≤ N.length := by
  refine len_keys Sum.inr nd fun x hx => ?_
  have e := val_nodup nd x hx
  have z := h x.1
  rw [e] at z
  obtain ⟨k, v⟩ := x
  cases k with
  | inl t => cases z
  | inr n => obtain ⟨q, _, hn, _⟩ := z; exact ⟨n, hn, rfl⟩
theorem len_over (nd : (kvs.map (·.1)).Nodup) (h : ∀ k, POver U σ k (valV kvs k)) : kvs.length ≤ U.length := by
  refine len_keys Sum.inl nd fun x hx => ?_
  have e := val_nodup nd x hx
  have z := h x.1
  rw [e] at z
  obtain ⟨k, v⟩ := x
  cases k with
  | inr t => cases z
  | inl n => obtain ⟨q, _, hn, _⟩ := z; exact ⟨n, hn, rfl⟩
theorem len_bond (nd : (kvs.map (·.1)).Nodup) (h : ∀ k, PBond U H σ k (valV kvs k)) : kvs.length ≤ U.length := by
  refine len_keys Sum.inl nd fun x hx => ?_
  have e := val_nodup nd x hx
  have z := h x.1
  rw [e] at z
  obtain ⟨k, v⟩ := x
  cases k with
  | inr t => cases z
  | inl n => obtain ⟨q, _, hn, _⟩ := z; exact ⟨n, hn, rfl⟩
end
end MIR

namespace K11
open PySem L2 SI CM BK OWN MIR StX TX TL
section
variable {w : World} {K : PySem.W.Frag} {mg : Str → Option Value} {base : Heap} (T : Txt w K mg)
/-- tuple(sorted(..)) of a list of ints -/
def spAsc (K : PySem.W.Frag) : Sp := fun vs H Q _ => ∃ (a : Addr) (ns : List Int), vs = [.ref a] ∧ SqL K H a (ns.map V.int) ∧ ns.length ≤ 900 ∧
  ∀ (H' : Hp) (p : Addr) (ms : List Int), Same H H' → H p = none → ms.Perm ns → ms.Pairwise (· ≤ ·) → H' p = some (.tup (ms.map V.int)) → Q (.ref p) H'
theorem ok_ascending : FnOk PP w K mg base CX0 1 T.f_ascending T.d_ascending ["stamps"] (spAsc K) := by
  refine T.F_ascending.ok sc_ascending (fun vs H Q E h => ?_) (fun cdv A outer s H vs Q E hr h => ?_)
  · obtain ⟨a, ns, rfl, _⟩ := h
    rfl
  · obtain ⟨a, ns, rfl, hS, hl, k⟩ := h
    refine ⟨_, pss_one (ps_ret (pe_callTy call_tuple_of (by rfl) T.n_tuple (by decide +kernel) (pa_cons (pe_callB cr_sortedI (by rfl) T.n_sorted (by decide +kernel) (pa_cons (pe_lc (own := [("stamp", 1)]) (g := gName 1) (tt := tYes) (by rfl) sc_ascending.nd (pi_list (pv 0)) (blkOk_by (N := ["stamps", "stamp"]) (sc := defScope s_ascending) (by decide +kernel)) (fun _ _ _ _ _ => pg_name (i := 1) sc_ascending.nd rfl (Or.inl rfl)) (fun _ _ _ _ _ => pts_nil) (fun _ _ _ _ _ => (pe_callTy call_int1 (by rfl) T.n_int (by decide +kernel) (pa_cons (pv 1) pa_nil)))) pa_nil)) pa_nil))), ?_⟩
    refine ⟨_, rfl, a, rfl, ⟨_, hS⟩, fun D nD => lc_list (K := K) (a := a) (xs := ns.map V.int) (fun i H' => H' D = some (.lst ((ns.take i).map V.int)) ∧ Same H H')
      ⟨upd_same, same_new (Same.refl H) nD⟩ (fun i H' _ h => h.2.seq hS) ?_ ?_⟩
    · rintro i x H1 hx ⟨hD, s1⟩
      rw [List.getElem?_map] at hx
      cases hq : ns[i]? with
      | none => rw [hq] at hx; cases hx
      | some y =>
      rw [hq] at hx
      cases hx
      refine ⟨rfl, _, rfl, .inl ⟨_, rfl, _, hD, small1000 (by rw [List.length_map, List.length_take]; have := (List.getElem?_eq_some_iff.mp hq).1; omega), ?_, fun b o z => ?_⟩⟩
      · rw [upd_same, List.take_add_one, hq, List.map_append]; rfl
      · rw [upd_ne (ne_of_none z nD)]; exact s1 b o z
    · rintro H1 ⟨hD, s1⟩
      rw [List.length_map, List.take_length] at hD
      exact ⟨D, ns, rfl, SqL.of hD, fun ms p pm ps np => ⟨p, _, rfl, .inl ⟨SqL.of upd_same, fun l nl => k _ l ms (same_new (same_new s1 np) nl) (s1.free (by cases e : H1 l with | none => rfl | some o => rw [kp np e] at nl; cases nl)) pm ps upd_same⟩⟩⟩
theorem inV_int (e : Int) (L : List Int) : inV (.int e) (L.map V.int) = decide (e ∈ L) := by
  have eqi : ∀ a b : Int, eqV (.int a) (.int b) = decide (a = b) := fun a b => by
    show (a == b) = _
    by_cases h : a = b
    · subst h; simp
    · rw [decide_eq_false h]; exact beq_eq_false_iff_ne.mpr h
  unfold inV
  rw [List.any_map]
  by_cases h : e ∈ L
  · rw [decide_eq_true h, List.any_eq_true]
    exact ⟨e, h, by show eqV (.int e) (.int e) = true; rw [eqi]; exact decide_eq_true rfl⟩
  · rw [decide_eq_false h, List.any_eq_false]
    intro y hy z
    have z' : eqV (.int y) (.int e) = true := z
    rw [eqi] at z'
    exact h (of_decide_eq_true z' ▸ hy)
theorem flat_ints (L : List Int) : (L.map V.int).all flatV = true := by
  rw [List.all_eq_true]
  intro v hv
  obtain ⟨e, _, rfl⟩ := List.mem_map.mp hv
  rfl
theorem LockS.of {d : Addr} {od : Obj} {u : HO} {H H1 : Hp} (s : Same H H1) : LockS d od u H (upd H1 d (.frz od u)) := ⟨upd_same, fun b o n h => by rw [upd_ne n]; exact s b o h⟩
/-- the list of those that fall, as far as it is made -/
structure Fl (σ : MIR.S) (s : Int) (U fs : List Int) : Prop where
  nd : fs.Nodup
  st : s ∈ fs
  re : ∀ t ∈ fs, Reach σ s t ∧ t ∈ U
def ClF (σ : MIR.S) (fs : List Int) (k : Nat) : Prop := ∀ i u, i < k → fs[i]? = some u → ∀ t, u ∈ σ.bd t → σ.ov t = none → t ∈ fs
theorem Fl.len {σ : MIR.S} {s : Int} {U fs : List Int} (h : Fl σ s U fs) : fs.length ≤ U.length := nd_le h.nd fun t ht => (h.re t ht).2
theorem Fl.isF {σ : MIR.S} {s : Int} {U fs ms : List Int} (h : Fl σ s U fs) (c : ClF σ fs fs.length) (p : ms.Perm fs) (so : ms.Pairwise (· ≤ ·)) : IsF σ s ms := by
  obtain ⟨a, b⟩ := perm_asc p so h.nd
  refine ⟨a, fun t => (b t).trans ⟨fun z => (h.re t z).1, fun z => ?_⟩⟩
  induction z with
  | refl => exact h.st
  | step r hu ho ih =>
    obtain ⟨i, hi, e⟩ := List.mem_iff_getElem.mp ih
    exact c i _ hi (by rw [List.getElem?_eq_getElem hi, e]) _ hu ho
theorem Fl.snoc {σ : MIR.S} {s t u : Int} {U fs : List Int} (h : Fl σ s U fs) (hu : u ∈ fs) (hb : u ∈ σ.bd t) (ho : σ.ov t = none) (nt : t ∉ fs) (tU : t ∈ U) : Fl σ s U (fs ++ [t]) := by
  refine ⟨List.nodup_append.mpr ⟨h.nd, List.nodup_cons.mpr ⟨List.not_mem_nil, List.nodup_nil⟩, fun a ha b hb e => ?_⟩, List.mem_append.mpr (.inl h.st), fun x hx => ?_⟩
  · rw [List.mem_singleton.mp hb] at e
    exact nt (e ▸ ha)
  · rcases List.mem_append.mp hx with hx | hx
    · exact h.re x hx
    · rw [List.mem_singleton.mp hx]
      exact ⟨.step (h.re u hu).1 hb ho, tU⟩
def spFalling (CS CI : Addr) : Sp := fun vs H Q _ => ∃ (p : Addr) (s : Int) (U : List Int) (N : List Str) (σ : MIR.S), vs = [.ref p, .int s] ∧ StAt CS CI U N H p σ ∧ s ∈ U ∧ U.length ≤ 400 ∧
  ∀ (H' : Hp) (q : Addr) (L : List Int), Same H H' → H q = none → IsF σ s L → (∀ t ∈ L, t ∈ U) → H' q = some (.tup (L.map V.int)) → Q (.ref q) H'
theorem ok_falling : FnOk PP w K mg base CX0 2 T.f_falling T.d_falling ["state", "stamp"] (spFalling T.c_State T.c_Item) := by
  refine T.F_falling.ok sc_falling (fun vs H Q E h => ?_) (fun cdv A outer s H vs Q E hr h => ?_)
  · obtain ⟨p, s, U, N, σ, rfl, _⟩ := h
    rfl
  · obtain ⟨p, s, U, N, σ, rfl, st, hs, hU, kk⟩ := h
    refine ⟨_, pss_cons (ps_set (i := 2) sc_falling.nd rfl (.inl rfl) (pe_lst (pa_cons (pv 1) pa_nil)))
 (pss_cons (ps_set (i := 3) sc_falling.nd rfl (.inl rfl) pe_int)
 (pss_cons (ps_while PassesOwn.never (pt_cmpR op_lt (pv 3) (pe_callB call_len_seq (by rfl) T.n_len PySem.boot_len (pa_cons (pv 2) pa_nil)) (nomark _))
 (pss_cons (ps_lock (ps_for PassesOwn.never rfl (pi_items (pe_fld (pv 0) rfl)) (pg_tup rfl (pgs_cons (pg_name (i := 4) sc_falling.nd rfl (.inl rfl)) (pgs_cons (pg_name (i := 5) sc_falling.nd rfl (.inl rfl)) pgs_nil)))
 (pss_one (ps_if (PW.pt (pw_and (pt_cmpR op_in_seq (pe_ix ix_list (pv 2) (pv 3) (fun _ _ => rfl)) (pv 5) rfl) (pw_and (pt_cmp (pc_dnotin (hu_of hr) (pv 4) (pe_fld (pv 0) rfl))) (pw_and1 (pt_cmpR op_notIn_seq (pv 4) (pv 2) rfl)))))
 (pss_one (ps_expr (pe_bm PySem.F.plainAttrs_list PySem.F.slot_list_append PySem.F.type_list_append mt_append (pv 2) (pa_cons (pv 4) pa_nil))))
 pss_nil))))
 (pss_one (ps_aug (i := 3) sc_falling.nd rfl (.inl rfl) pe_int ip_add))))
 (pss_one (ps_ret (pe_call (ok_ascending T) (hr.mono (by decide)) (by rfl) T.g_ascending T.F_ascending.kp (b_ascending T) .nil pass0 (pa_cons (pv 2) pa_nil)))))), ?_⟩
    obtain ⟨dx, ds, dv, db, hp, n1, n2, n3, D1, D2, D3⟩ := st.ex
    obtain ⟨bv, hbv, bnd, hB⟩ := D3.ex
    obtain ⟨ov, hov, ond, hO⟩ := D2.ex
    have one : 1 ≤ sizeLine := by decide
    refine ⟨_, rfl, one, fun F nF => ?_⟩
    have s0 := same_new (o := .lst [.int s]) (Same.refl H) nF
    have Fdb : F ≠ db := fun z => by rw [z, hbv] at nF; cases nF
    refine while_by (fun τ H' => ∃ (fs : List Int) (k : Nat) (v4 v5 : Option V), τ = [some (.ref p), some (.int s), some (.ref F), some (.int (k : Int)), v4, v5] ∧ H' F = some (.lst (fs.map V.int)) ∧ Same H H' ∧ k ≤ fs.length ∧ Fl σ s U fs ∧ ClF σ fs k)
      (fun τ _ => match τ[3]? with | some (some (V.int k)) => U.length + 1 - k.toNat | _ => 0)
      ⟨[s], 0, none, none, rfl, upd_same, s0, Nat.zero_le _, ⟨List.nodup_cons.mpr ⟨List.not_mem_nil, List.nodup_nil⟩, List.mem_singleton.mpr rfl, fun t ht => by rw [List.mem_singleton.mp ht]; exact ⟨.refl, hs⟩⟩, fun i u hi => absurd hi (Nat.not_lt_zero _)⟩ ?_ ?_
    · rintro τ H1 ⟨fs, k, v4, v5, rfl, hF, s1, hk, fl, cl⟩
      refine ⟨_, rfl, _, rfl, F, _, rfl, .inl (SqL.of hF), _, _, rfl, rfl, _, rfl, ?_⟩
      rw [List.length_map]
      by_cases hlt : (k : Int) < (fs.length : Int)
      · rw [decide_eq_true hlt]
        refine iteT ?_
        have hkl : k < fs.length := by omega
        have hku : fs[k]? = some fs[k] := List.getElem?_eq_getElem hkl
        generalize fs[k] = u at hku
        have huM : u ∈ fs := List.mem_of_getElem? hku
        refine ⟨db, .dK bv, s1 _ _ hbv, trivial, fun od => ?_⟩
        have hpL : (upd H1 db (.frz od (.dK bv))) p = _ := (upd_ne (fun z => by rw [z, hbv] at hp; cases hp)).trans (s1 _ _ hp)
        refine ⟨_, rfl, p, T.c_State, dx, _, _, rfl, hpL, T.cl_State, T.na_State_bonds, rfl, db, od, bv, rfl, upd_same, for_it walk_items (fun j τ H' => ∃ (gs : List Int) (v4 v5 : Option V), τ = [some (.ref p), some (.int s), some (.ref F), some (.int (k : Int)), v4, v5] ∧ H' F = some (.lst (gs.map V.int)) ∧ LockS db od (.dK bv) H H' ∧ (∃ ext, gs = fs ++ ext) ∧ Fl σ s U gs ∧ ∀ x ∈ bv.take j, ∀ t, x.1 = Sum.inl t → u ∈ σ.bd t → σ.ov t = none → t ∈ gs)
          ⟨fs, v4, v5, rfl, by rw [upd_ne Fdb]; exact hF, LockS.of s1, ⟨[], (List.append_nil _).symm⟩, fl, fun x hx => by cases hx⟩ (fun j τ H' _ ⟨_, _, _, _, _, l, _⟩ => l.at_) ?_ ?_⟩
        · rintro j x τ H2 H3 hj ⟨gs, v4, v5, rfl, hF2, l2, ⟨ext, eg⟩, fl2, cov⟩ ⟨T', x1, x2, rfl, nT, rfl, e1, e2⟩
          have e1 : bv[j]?.map (fun kv => kV kv.1) = some x1 := e1
          have e2 : bv[j]?.map Prod.snd = some x2 := e2
          cases hq : bv[j]? with
          | none => rw [hq] at e1; cases e1
          | some kv =>
          obtain ⟨kk', v⟩ := kv
          rw [hq] at e1 e2
          cases e1
          cases e2
          have hb := hB kk'
          rw [val_at bnd hq] at hb
          cases kk' with
          | inr _ => cases hb
          | inl t =>
          obtain ⟨q, rfl, tU, hqt, bnodup, bU⟩ := hb
          have l3 := l2.new (o := .tup [kV (Sum.inl t), .ref q]) nT
          have hF3 := kp (o' := .tup [kV (Sum.inl t), .ref q]) nT hF2
          have hT3 : (upd H2 T' (.tup [kV (Sum.inl t), .ref q])) T' = some (.tup [kV (Sum.inl t), .ref q]) := upd_same
          generalize upd H2 T' (.tup [kV (Sum.inl t), .ref q]) = H3 at l3 hF3 hT3
          have qdb : q ≠ db := fun z => by rw [z, hbv] at hqt; cases hqt
          have pdb : p ≠ db := fun z => by rw [z, hbv] at hp; cases hp
          have hq3 := l3.but _ _ qdb hqt
          have hp3 := l3.but _ _ pdb hp
          have hv3 := l3.but _ _ n3 hov
          have hgk : gs[k]? = some u := by rw [eg, List.getElem?_append_left hkl]; exact hku
          have covS : ∀ {hs : List Int}, (∀ y ∈ gs, y ∈ hs) → (u ∈ σ.bd t → σ.ov t = none → t ∈ hs) → ∀ x ∈ bv.take (j + 1), ∀ t, x.1 = Sum.inl t → u ∈ σ.bd t → σ.ov t = none → t ∈ hs := fun {hs} sub last x hx t' ex hb ho => by
            rw [List.take_add_one, hq] at hx
            rcases List.mem_append.mp hx with hx | hx
            · exact sub _ (cov x hx t' ex hb ho)
            · rw [List.mem_singleton.mp hx] at ex
              cases ex
              exact last hb ho
          refine ⟨T', _, rfl, SqT.of hT3, rfl, _, _, rfl, _, _, rfl, rfl, ?_⟩
          refine ⟨_, rfl, _, rfl, F, _, _, .int u, rfl, rfl, SqL.of hF3, atI_nat (by rw [List.getElem?_map, hgk]; rfl), _, rfl, q, (σ.bd t).map V.int, rfl, .inr (SqT.of hq3), rfl, flat_ints _, _, rfl, ?_⟩
          rw [inV_int]
          have stay : (u ∈ σ.bd t → σ.ov t = none → t ∈ gs) → ∃ (gs' : List Int) (v4 v5 : Option V), [some (.ref p), some (.int s), some (.ref F), some (.int (k : Int)), some (.int t), some (.ref q)] = [some (.ref p), some (.int s), some (.ref F), some (.int (k : Int)), v4, v5] ∧ H3 F = some (.lst (gs'.map V.int)) ∧ LockS db od (.dK bv) H H3 ∧ (∃ ext, gs' = fs ++ ext) ∧ Fl σ s U gs' ∧ ∀ x ∈ bv.take (j + 1), ∀ t, x.1 = Sum.inl t → u ∈ σ.bd t → σ.ov t = none → t ∈ gs' := fun h =>
            ⟨gs, _, _, rfl, hF3, l3, ⟨ext, eg⟩, fl2, covS (fun _ h => h) h⟩
          by_cases hu : u ∈ σ.bd t
          · rw [decide_eq_true hu]
            have g := DGet.k (k := Sum.inl t) hv3
            have ho := hO (.inl t)
            refine iteT ⟨_, rfl, _, rfl, p, T.c_State, dx, _, _, rfl, hp3, T.cl_State, T.na_State_over, rfl, dv, _, rfl, g, ?_⟩
            cases e : valV ov (Sum.inl t) with
            | some v =>
              rw [e] at ho
              obtain ⟨b, _, _, eb⟩ := ho
              exact ⟨_, rfl, iteF (iteF (stay fun _ z => by rw [eb] at z; cases z))⟩
            | none =>
              rw [e] at ho
              refine ⟨_, rfl, iteT ⟨_, rfl, _, rfl, F, _, rfl, .inl (SqL.of hF3), rfl, flat_ints _, _, rfl, ?_⟩⟩
              rw [show inV (kV (Sum.inl t)) (gs.map V.int) = decide (t ∈ gs) from inV_int t gs]
              by_cases ht : t ∈ gs
              · rw [decide_eq_true ht]
                exact iteF (stay fun _ _ => ht)
              · rw [decide_eq_false ht]
                have flS := fl2.snoc (List.mem_of_getElem? hgk) hu ho ht tU
                refine iteT ⟨_, rfl, .inl ⟨rfl, _, SqL.of hF3⟩, _, rfl, F, _, _, rfl, rfl, hF3, small1000 (by rw [List.length_map]; have := fl2.len; omega), gs ++ [t], _, _, rfl, ?_, l3.put nF Fdb, ⟨ext ++ [t], by rw [eg, List.append_assoc]⟩, flS, covS (fun y hy => List.mem_append.mpr (.inl hy)) fun _ _ => List.mem_append.mpr (.inr (List.mem_singleton.mpr rfl))⟩
                rw [upd_same, List.map_append]; rfl
          · rw [decide_eq_false hu]
            exact iteF (iteF (stay fun z => absurd z hu))
        · rintro τ H2 ⟨gs, v4, v5, rfl, hF2, l2, ⟨ext, eg⟩, fl2, cov⟩
          refine ⟨l2.at_, ?_⟩
          rw [List.take_length] at cov
          refine ⟨_, rfl, _, _, rfl, rfl, ⟨gs, k + 1, v4, v5, rfl, ?_, l2.unlock hbv, by rw [eg, List.length_append]; omega, fl2, ?_⟩, ?_⟩
          · rw [upd_ne Fdb]; exact hF2
          · intro i u' hi hu' t hb ho
            by_cases hik : i < k
            · have : fs[i]? = some u' := by rw [eg, List.getElem?_append_left (by omega)] at hu'; exact hu'
              rw [eg]
              exact List.mem_append.mpr (.inl (cl i u' hik this t hb ho))
            · obtain rfl : i = k := by omega
              rw [eg, List.getElem?_append_left hkl, hku] at hu'
              cases hu'
              have hbt := hB (.inl t)
              cases e : valV bv (Sum.inl t) with
              | none => rw [e] at hbt; rw [show σ.bd t = [] from hbt] at hb; cases hb
              | some v =>
                have := valV_in e
                obtain ⟨x, hx, ex⟩ := List.mem_map.mp this
                exact cov x hx t ex hb ho
          · show U.length + 1 - ((k : Int) + 1).toNat < U.length + 1 - (k : Int).toNat
            have := fl.len
            omega
      · rw [decide_eq_false hlt]
        obtain rfl : k = fs.length := by omega
        exact iteF ⟨_, rfl, F, fs, rfl, SqL.of hF, by have := fl.len; omega, fun H' q ms sm nq pm ps hq => kk H' q ms (s1.trans sm) (s1.free nq) (fl.isF cl pm ps) (fun t ht => (fl.re t (pm.mem_iff.mp ht)).2) hq⟩
    · rintro τ H1 Q1 Q2 hQ ⟨v, e1, u, e2, a, xs, e3, e4, i, j, e5, e6, b, e7, q⟩
      exact ⟨v, e1, u, e2, a, xs, e3, e4, i, j, e5, e6, b, e7, hQ _ _ q⟩
end
end K11

namespace K11
open PySem L2 SI CM BK OWN MIR StX TX TL
section
variable {w : World} {K : PySem.W.Frag} {mg : Str → Option Value} {base : Heap} (T : Txt w K mg)
def spReleased (CI : Addr) : Sp := fun vs H Q _ => ∃ (p f : Addr) (i : MIR.It) (L : List Int), vs = [.ref p, .ref f] ∧ ItAt CI H p i ∧ H f = some (.tup (L.map V.int)) ∧ ∀ (H' : Hp) (q : Addr), Same H H' → ItAt CI H' q (relI L i) → Q (.ref q) H'
theorem ok_released : FnOk PP w K mg base CX0 3 T.f_released T.d_released ["item", "fallen"] (spReleased T.c_Item) := by
  refine T.F_released.ok sc_released (fun vs H Q E h => ?_) (fun cdv A outer s H vs Q E hr h => ?_)
  · obtain ⟨p, f, i, L, rfl, _⟩ := h
    rfl
  · obtain ⟨p, f, i, L, rfl, hi, hf, kk⟩ := h
    refine ⟨_, pss_cons (ps_if (pt_cmpR op_notIn_seq (pe_fld (pv 0) rfl) (pv 1) rfl)
 (pss_one (ps_ret (pv 0)))
 pss_nil)
 (pss_one (ps_ret (pe_make T.mk_Item (ok_Item_init T) (hr.mono (by decide)) (by rfl) T.g_Item (b_Item_init T) .nil pass0 (pa_cons (pe_fld (pv 0) rfl) (pa_cons pe_non (pa_cons pe_non (pa_cons (pe_fld (pv 0) rfl) pa_nil))))))), ?_⟩
    obtain ⟨dx, ka, hp, hk⟩ := hi
    have fl : flatV (hV i) = true := by unfold hV; split <;> rfl
    refine ⟨_, rfl, p, T.c_Item, dx, _, _, rfl, hp, T.cl_Item, T.na_Item_holder, rfl, _, rfl, f, L.map V.int, rfl, .inr (SqT.of hf), fl, flat_ints _, _, rfl, ?_⟩
    cases ho : i.opn with
    | none =>
      have e0 : hV i = .non := by unfold hV; rw [ho]
      have e1 : inV (hV i) (L.map V.int) = false := by
        rw [e0]; unfold inV; rw [List.any_map, List.any_eq_false]; intro y _ z; exact absurd z (by simp [eqV])
      have e2 : relI L i = i := by unfold relI; rw [ho]
      rw [e2] at kk
      rw [e1]
      exact iteT ⟨_, rfl, kk H p (Same.refl H) ⟨dx, ka, hp, hk⟩⟩
    | some hv =>
      obtain ⟨h, v⟩ := hv
      have e0 : hV i = .int h := by unfold hV; rw [ho]
      have e1 : inV (hV i) (L.map V.int) = decide (h ∈ L) := by rw [e0, inV_int]
      rw [e1]
      by_cases hL : h ∈ L
      · rw [decide_eq_true hL]
        have e2 : relI L i = { i with opn := none } := by unfold relI; rw [ho]; exact if_pos hL
        rw [e2] at kk
        refine iteF ⟨_, rfl, p, T.c_Item, dx, _, _, rfl, hp, T.cl_Item, T.na_Item_kept, rfl, _, rfl, p, T.c_Item, dx, _, _, rfl, hp, T.cl_Item, T.na_Item_reader, rfl, fun x dx' nx ndx ne => mk_item nx ndx fun H' sm hx => ⟨rfl, kk H' x sm ⟨dx', ka, hx, hk.same sm⟩⟩⟩
      · rw [decide_eq_false hL]
        have e2 : relI L i = i := by unfold relI; rw [ho]; exact if_neg hL
        rw [e2] at kk
        exact iteT ⟨_, rfl, kk H p (Same.refl H) ⟨dx, ka, hp, hk⟩⟩
theorem sIx_neg (n k : Nat) (h : 1 ≤ k) : HT.sIx n 0 (some (-(k : Int))) = n - k := by
  have e := HT.clip_eq (-(k : Int)) n 0
  rw [if_pos (by omega)] at e
  omega
theorem map_lastN {α β : Type} (g : α → β) (k : Nat) (l : List α) : lastN k (l.map g) = (lastN k l).map g := by
  unfold lastN
  rw [List.length_map, List.map_drop]
def spSettled (CI : Addr) : Sp := fun vs H Q _ => ∃ (p : Addr) (i : MIR.It) (s : Int) (k : Nat), vs = [.ref p, .int s, .int (k : Int)] ∧ ItAt CI H p i ∧ i.kept.length ≤ 20 ∧ 1 ≤ k ∧ ∀ (H' : Hp) (q : Addr), Same H H' → ItAt CI H' q (setI s k i) → Q (.ref q) H'
theorem ok_settled : FnOk PP w K mg base CX0 3 T.f_settled T.d_settled ["item", "stamp", "keep"] (spSettled T.c_Item) := by
  refine T.F_settled.ok sc_settled (fun vs H Q E h => ?_) (fun cdv A outer s H vs Q E hr h => ?_)
  · obtain ⟨p, i, s, k, rfl, _⟩ := h
    rfl
  · obtain ⟨p, i, s, k, rfl, hi, h20, h1, kk⟩ := h
    refine ⟨_, pss_cons (ps_if (pt_cmpR op_ne (pe_fld (pv 0) rfl) (pv 1) (nomark _))
 (pss_one (ps_ret (pv 0)))
 pss_nil)
 (pss_cons (ps_set (i := 3) sc_settled.nd rfl (.inl rfl) (pe_tup (pa_star (pe_fld (pv 0) rfl) (pa_cons (pe_tup (pa_cons (pv 1) (pa_cons (pe_fld (pv 0) rfl) pa_nil))) pa_nil))))
 (pss_one (ps_ret (pe_make T.mk_Item (ok_Item_init T) (hr.mono (by decide)) (by rfl) T.g_Item (b_Item_init T) .nil pass0 (pa_cons (pe_slice sl_tupA (pv 3) (po_some (pe_un un_neg (pv 2))) po_none) (pa_cons pe_non (pa_cons pe_non (pa_cons (pe_fld (pv 0) rfl) pa_nil)))))))), ?_⟩
    obtain ⟨dx, ka, hp, hk⟩ := hi
    have sc : scal (hV i) (.int s) = true := by unfold hV; split <;> rfl
    refine ⟨_, rfl, p, T.c_Item, dx, _, _, rfl, hp, T.cl_Item, T.na_Item_holder, rfl, _, rfl, sc, _, rfl, ?_⟩
    cases ho : i.opn with
    | none =>
      have e0 : hV i = .non := by unfold hV; rw [ho]
      have e2 : setI s k i = i := by unfold setI; rw [ho]
      rw [e2] at kk
      rw [e0, decide_eq_false (by intro z; cases z)]
      exact iteT ⟨_, rfl, kk H p (Same.refl H) ⟨dx, ka, hp, hk⟩⟩
    | some hv =>
      obtain ⟨h, v⟩ := hv
      have e0 : hV i = .int h := by unfold hV; rw [ho]
      have e1 : vV i = .int v := by unfold vV; rw [ho]
      rw [e0]
      by_cases hL : h = s
      · subst hL
        rw [decide_eq_true rfl]
        have e2 : setI h k i = { i with kept := lastN k (i.kept ++ [(h, v)]), opn := none } := by unfold setI; rw [ho]; exact if_pos rfl
        rw [e2] at kk
        obtain ⟨ps, hka, hps⟩ := hk
        have two : 2 ≤ sizeLine := by decide
        refine iteF ⟨_, rfl, p, T.c_Item, dx, _, _, rfl, hp, T.cl_Item, T.na_Item_kept, rfl, ka, ps.map V.ref, rfl, .inl (SqT.of hka), _, rfl, _, rfl, p, T.c_Item, dx, _, _, rfl, hp, T.cl_Item, T.na_Item_value, rfl, two, fun t nt => ?_⟩
        rw [e1]
        have s1 := same_new (o := .tup [.int h, .int v]) (Same.refl H) nt
        have ht : (upd H t (.tup [.int h, .int v])) t = some (.tup [.int h, .int v]) := upd_same
        generalize upd H t (.tup [.int h, .int v]) = H1 at s1 ht
        refine ⟨by rw [List.length_append, List.length_map]; show ps.length + 1 ≤ _; rw [hps.len]; exact Nat.le_trans (show i.kept.length + 1 ≤ 21 by omega) (by decide), fun u nu => ?_⟩
        have hl : ps.map V.ref ++ [V.ref t] = (ps ++ [t]).map V.ref := by rw [List.map_append]; rfl
        rw [hl]
        have s2 := same_new (o := .tup ((ps ++ [t]).map V.ref)) s1 nu
        have hu : (upd H1 u (.tup ((ps ++ [t]).map V.ref))) u = some (.tup ((ps ++ [t]).map V.ref)) := upd_same
        have ht2 := kp (o' := .tup ((ps ++ [t]).map V.ref)) nu ht
        generalize upd H1 u (.tup ((ps ++ [t]).map V.ref)) = H2 at s2 hu ht2
        have f2 : F2 (VerAt H2) (ps ++ [t]) (i.kept ++ [(h, v)]) := (hps.mono fun a b r => r.same s2).snoc ht2
        have hp2 := s2 _ _ hp
        have fin : ∀ (H3 : Hp) (y : Addr), Same H2 H3 → H3 y = some (.tup ((lastN k (ps ++ [t])).map V.ref)) → KeptAt H3 y (lastN k (i.kept ++ [(h, v)])) := fun H3 y s3 hy =>
          ⟨_, hy, by unfold lastN; rw [f2.len]; exact (f2.drop _).mono fun a b r => r.same s3⟩
        have rest : ∀ (H3 : Hp) (y : Addr), Same H2 H3 → H3 y = some (.tup ((lastN k (ps ++ [t])).map V.ref)) → ∀ x dx', H3 x = none → H3 dx' = none → dx' ≠ x → spItemI T.c_Item [.ref x, .ref y, .non, .non, .int i.rd] (upd (upd H3 dx' (.own x)) x (.ins T.c_Item dx' [])) (fun r H4 => r = .non ∧ Q (.ref x) H4) E0 := fun H3 y s3 hy x dx' nx ndx ne =>
          mk_item nx ndx fun H' sm hx => ⟨rfl, kk H' x ((s2.trans s3).trans sm) ⟨dx', y, hx, (fin H3 y s3 hy).same sm⟩⟩
        refine ⟨_, rfl, _, rfl, _, rfl, _, rfl, u, _, rfl, SqT.of hu, fun hw => ?_, fun hw y ny => ?_⟩
        · have ew : (lastN k (ps ++ [t])).map V.ref = (ps ++ [t]).map V.ref := by
            have := hw.1
            rw [sIx_neg _ _ h1, List.length_map] at this
            unfold lastN
            rw [this, List.drop_zero]
          refine ⟨_, rfl, p, T.c_Item, dx, _, _, rfl, hp2, T.cl_Item, T.na_Item_reader, rfl, ?_⟩
          exact rest H2 u (Same.refl _) (by rw [ew]; exact hu)
        · have ew : cutV ((ps ++ [t]).map V.ref) (some (-(k : Int))) none = (lastN k (ps ++ [t])).map V.ref := by
            unfold cutV lastN
            rw [sIx_neg _ _ h1, HT.sIx_none, List.length_map, List.map_drop]
            exact List.take_of_length_le (by rw [List.length_drop, List.length_map]; exact Nat.le_refl _)
          rw [ew]
          have s3 := same_new (o := .tup ((lastN k (ps ++ [t])).map V.ref)) (Same.refl H2) ny
          refine ⟨_, rfl, p, T.c_Item, dx, _, _, rfl, s3 _ _ hp2, T.cl_Item, T.na_Item_reader, rfl, ?_⟩
          exact rest _ y s3 upd_same
      · rw [decide_eq_false (fun z => hL (V.int.inj z))]
        have e2 : setI s k i = i := by unfold setI; rw [ho]; exact if_neg hL
        rw [e2] at kk
        exact iteT ⟨_, rfl, kk H p (Same.refl H) ⟨dx, ka, hp, hk⟩⟩
end
end K11

/-! Steps of the states' dicts. -/
namespace MIR
open PySem L2 CM BK
section
variable {H H' : Hp} {C d : Addr} {U : List Int} {N : List Str} {σ σ' : S} {kvs nkv : List (Key × V)} {t : Int} {b : Bool}
theorem over_put (nd : (kvs.map (·.1)).Nodup) (hP : ∀ k, POver U σ k (valV kvs k)) (ht : t ∈ U) (h1 : σ'.ov t = some b) (h2 : ∀ x, x ≠ t → σ'.ov x = σ.ov x) :
    ((putK kvs (Sum.inl t) (.str (ovS b))).map (·.1)).Nodup ∧ ∀ k, POver U σ' k (valV (putK kvs (Sum.inl t) (.str (ovS b))) k) := by
  refine ⟨nd_put nd, fun k => ?_⟩
  rw [valV_put]
  by_cases e : k = Sum.inl t
  · rw [if_pos e, e]
    exact ⟨b, rfl, ht, h1⟩
  · rw [if_neg e]
    have z := hP k
    cases k with
    | inr n => exact z
    | inl x =>
      have nx : x ≠ t := fun q => e (by rw [q])
      have q := h2 x nx
      cases e2 : valV kvs (Sum.inl x) with
      | none => rw [e2] at z; exact q.trans z
      | some v =>
        rw [e2] at z
        obtain ⟨b', h3, h4, h5⟩ := z
        exact ⟨b', h3, h4, q.trans h5⟩
theorem over_congr (hP : ∀ k, POver U σ k (valV kvs k)) (h : ∀ x, σ'.ov x = σ.ov x) : ∀ k, POver U σ' k (valV kvs k) := fun k => by
  have z := hP k
  cases k with
  | inr n => exact z
  | inl x =>
    cases e2 : valV kvs (Sum.inl x) with
    | none => rw [e2] at z; exact (h x).trans z
    | some v => rw [e2] at z; obtain ⟨b', h3, h4, h5⟩ := z; exact ⟨b', h3, h4, (h x).trans h5⟩
def RSt (C : Addr) (U : List Int) (N : List Str) (H : Hp) (g : Str → It) : Key → V → Prop := fun k v => ∃ n q, k = .inr n ∧ v = .ref q ∧ n ∈ N ∧ ItAt C H q (g n) ∧ WfI U (g n)
theorem RSt.sameT {g : Str → It} (s : SameT H H') : ∀ k v, RSt C U N H g k v → RSt C U N H' g k v := fun k v ⟨n, q, h1, h2, h3, h4, h5⟩ => ⟨n, q, h1, h2, h3, h4.sameT s, h5⟩
theorem store_map {g : It → It} (h0 : g it0 = it0) (nd : (kvs.map (·.1)).Nodup) (hP : ∀ k, PStore C U N H σ k (valV kvs k)) (m : Made kvs nkv kvs.length (RSt C U N H' fun n => g (σ.it n))) (e : ∀ n, σ'.it n = g (σ.it n)) :
    (nkv.map (·.1)).Nodup ∧ ∀ k, PStore C U N H' σ' k (valV nkv k) := by
  obtain ⟨a, b, c⟩ := m.done nd
  refine ⟨a, fun k => ?_⟩
  have z := hP k
  cases k with
  | inl x =>
    have : valV kvs (Sum.inl x) = none := z
    exact (b _).mpr this
  | inr n =>
    cases e2 : valV nkv (Sum.inr n) with
    | none =>
      rw [(b _).mp e2] at z
      show σ'.it n = it0
      rw [e n, show σ.it n = it0 from z, h0]
    | some v =>
      obtain ⟨n', q, h1, h2, h3, h4, h5⟩ := c _ _ e2
      cases h1
      exact ⟨q, h2, h3, by rw [e n]; exact h4, by rw [e n]; exact h5⟩
theorem bond_congr (hP : ∀ k, PBond U H σ k (valV kvs k)) (s : Same H H') (h : ∀ x, σ'.bd x = σ.bd x) : ∀ k, PBond U H' σ' k (valV kvs k) := fun k => by
  have z := hP k
  cases k with
  | inr n => exact z
  | inl x =>
    cases e2 : valV kvs (Sum.inl x) with
    | none => rw [e2] at z; exact (h x).trans z
    | some v =>
      rw [e2] at z
      obtain ⟨q, h3, h4, h5, h6, h7⟩ := z
      exact ⟨q, h3, h4, by rw [h x]; exact s _ _ h5, by rw [h x]; exact h6, by rw [h x]; exact h7⟩
theorem store_congr (hP : ∀ k, PStore C U N H σ k (valV kvs k)) (s : SameT H H') (h : ∀ x, σ'.it x = σ.it x) : ∀ k, PStore C U N H' σ' k (valV kvs k) := fun k => by
  have z := hP k
  cases k with
  | inl n => exact z
  | inr x =>
    cases e2 : valV kvs (Sum.inr x) with
    | none => rw [e2] at z; exact (h x).trans z
    | some v =>
      rw [e2] at z
      obtain ⟨q, h3, h4, h5, h6⟩ := z
      exact ⟨q, h3, h4, by rw [h x]; exact h5.sameT s, by rw [h x]; exact h6⟩
theorem relI0 {L : List Int} : relI L it0 = it0 := rfl
theorem setI0 {s : Int} {k : Nat} : setI s k it0 = it0 := rfl
theorem WfI.rel {L : List Int} {i : It} (w : WfI U i) : WfI U (relI L i) := by
  unfold relI
  split
  · split
    · exact { ne := w.ne, le := w.le, ho := fun h v z => by cases z }
    · exact w
  · exact w
theorem WfI.set {s : Int} {k : Nat} {i : It} (w : WfI U i) (h1 : 1 ≤ k) (h2 : k ≤ 20) : WfI U (setI s k i) := by
  unfold setI
  split
  · split
    · refine { ne := ?_, le := ?_, ho := fun h v z => by cases z }
      · show lastN k (i.kept ++ [_]) ≠ []
        intro z
        have := congrArg List.length z
        unfold lastN at this
        rw [List.length_drop, List.length_append] at this
        simp at this
        omega
      · show (lastN k (i.kept ++ [_])).length ≤ 20
        unfold lastN
        rw [List.length_drop, List.length_append]
        have := w.le
        simp
        omega
    · exact w
  · exact w
end
end MIR

/-! y = {k: v for ..}: the target is stored within the comprehension's frame. -/
namespace DCS
open PySem PySem.Spec PyProof.Rows L2
section
variable {X : Cx}
abbrev BlkAll (X : Cx) (scope : Scope) (R : Cx → Prop) : Prop := ∀ (s : Shared) (H : Hp) (C : Addr) (cl : List (Str × Addr)) (fp : List Addr), R (X.blk s H scope (compEnvC scope cl C X.env) fp)
theorem ps_setDc {i : Nat} {y : Str} {kx vx tg it : Expr} {ifs : List Expr} {scope : Scope} {own : List (Str × Nat)} {py pos spos : Pos} {wi : TI} {g : TG} {tt : TT} {tk tv : TE}
    (hc : X.calm = true) (hN : X.N.Nodup) (hy : X.N[i]? = some y) (hyl : X.env.scope.names.lookup y = some .local) (hsw : swapsWith (.DictComp kx vx [⟨tg, it, ifs, 0⟩] scope pos) (some (.Name y py)) spos.line X.env = pure true)
    (hi : PI X tg it wi) (ok : BlkOk X.N X.env.scope scope own) (hg : BlkAll X scope fun Z => PG Z tg g) (ht : BlkAll X scope fun Z => PTs Z ifs tt) (hk : BlkAll X scope fun Z => PE Z kx tk) (he : BlkAll X scope fun Z => PE Z vx tv)
    (hs : ∀ x, foldedSetIterable it X.env x = pure x := by intro _; rfl) :
    PS X (.Assign [.Name y py] (.DictComp kx vx [⟨tg, it, ifs, 0⟩] scope pos) spos) (tAsg (tDc wi g tt tk tv (own.map (·.2))) (gName i)) := by
  refine ⟨fun pins s σ H D I h0 => ?_⟩
  rw [exec_Assign_Name_used _ _ _ _ hsw]
  refine wpAny_bind (wpAny_standAt (wpAny_bind ?_))
  show wpAny _ X.A (do let _ ← comprehension (.DictComp kx vx [⟨tg, it, ifs, 0⟩] scope pos) scope X.env (firstIterPos [⟨tg, it, ifs, 0⟩] pos) newDict false (eval it X.env) (some (assign (.Name y py) X.env))) _ _ s
  have h1 : tDc wi g tt tk tv (own.map (·.2)) σ H (fun x H1 => gName i x σ H1 D.nx) := h0
  refine wpAny_bind (thn (dc_core (Qf := fun _ s' => SP X pins D .next s') hc hN I hi ok hg ht hk he hs h1 fun M C s' m H' I' q hn f => ?_) fun _ s' hq => wpAny_pure (wpAny_pure hq))
  show wpAny _ _ (assign (.Name y py) X.env (.ref M)) _ _ _
  refine wpAny_assign_Name (store_ok2 (v := V.ref M) I' hN hy (.inl hyl) rfl (fun s2 I2 ⟨a, sb, ha⟩ => ?_) (.inr hyl))
  obtain ⟨e0, e1, e2, e3, e4, e5⟩ := f
  have hCa : C ≠ a := ha.elim (fun z => by rw [z]; exact e1) fun z e => e4 y a z e.symm
  exact ⟨m, hn.sameBut sb hCa, fun h3 sb3 => ⟨_, H', I2.turned (t' := s2.toks) (fun b o hb e => (sb3.2 b hb).trans e) e0 e1 e3 e4 e5, q⟩⟩
theorem sw_dict {kx vx : Expr} {gs : List Comprehension} {scope : Scope} {pos py : Pos} {y : Str} {l : Nat} {env : Env} (hf : env.scope.kind = .function) (hy : env.scope.names.lookup y = some .local) (hl : (py.line == pos.line) = true)
    (ha : (scope.names.any fun (n, k) => n == y && (k == .local || k == .cell)) = false) : swapsWith (.DictComp kx vx gs scope pos) (some (.Name y py)) l env = pure true := by
  have k1 : env.kindOf y = some .local := hy
  have k2 : env.blockKind = .function := by unfold Env.blockKind; rw [hf]; rfl
  unfold swapsWith
  simp only [k1, k2, ha, Expr.pos, hl]
  rfl
end
end DCS

namespace K11
open PySem L2 SI CM BK OWN MIR StX TX TL
section
variable {w : World} {K : PySem.W.Frag} {mg : Str → Option Value} {base : Heap} (T : Txt w K mg)

theorem ints_at' {ds : List Int} {i : Nat} {x : V} (h : (ds.map V.int)[i]? = some x) : ∃ d, ds[i]? = some d ∧ x = V.int d := by
  rw [List.getElem?_map] at h
  cases q : ds[i]? with
  | none => rw [q] at h; cases h
  | some d => rw [q] at h; exact ⟨d, rfl, (Option.some.inj h).symm⟩
def FellAt (CS CI : Addr) (U : List Int) (N : List Str) (H : Hp) (q : Addr) (σ : MIR.S) (L : List Int) : Prop := ∃ a f, H q = some (.tup [.ref a, .ref f]) ∧ StAt CS CI U N H a σ ∧ H f = some (.tup (L.map V.int))
def spWithout (CS CI : Addr) : Sp := fun vs H Q _ => ∃ (p : Addr) (s : Int) (U : List Int) (N : List Str) (σ : MIR.S), vs = [.ref p, .int s] ∧ StAt CS CI U N H p σ ∧ s ∈ U ∧ U.length ≤ 400 ∧ N.length ≤ 400 ∧
  ∀ (H' : Hp) (q : Addr), Same H H' → FellAt CS CI U N H' q (fallS σ (fal σ s)) (fal σ s) → ((∀ t ∈ fal σ s, t ∈ U) ∧ IsF σ s (fal σ s)) → Q (.ref q) H'
theorem ok_without : FnOk PP w K mg base CX0 5 T.f_without T.d_without ["state", "stamp"] (spWithout T.c_State T.c_Item) := by
  refine T.F_without.ok sc_without (fun vs H Q E h => ?_) (fun cdv A outer s H vs Q E hr h => ?_)
  · obtain ⟨p, s, U, N, σ, rfl, _⟩ := h
    rfl
  · obtain ⟨p, s, U, N, σ, rfl, st, hs, hU, hN, kk⟩ := h
    refine ⟨_, pss_cons (ps_set (i := 2) sc_without.nd rfl (.inr rfl) (pe_call (ok_falling T) (hr.mono (by decide)) (by rfl) T.g_falling T.F_falling.kp (b_falling T) .nil pass0 (pa_cons (pv 0) (pa_cons (pv 1) pa_nil))))
 (pss_cons (ps_set (i := 3) sc_without.nd rfl (.inl rfl) (pe_callTy call_dictD (by rfl) T.n_dict (by decide +kernel) (pa_cons (pe_fld (pv 0) rfl) pa_nil)))
 (C8.pss_cut (ps_for PassesOwn.never rfl (pi_tup (pv 2)) (pg_name (i := 4) sc_without.nd rfl (.inl rfl))
 (pss_one (ps_dput (hu_of hr) (pv 3) (pv 4) pe_str rfl)))
 (C8.pss_cut (ps_lock (DCS.ps_setDc (i := 7) (own := [("name", 5), ("item", 6)]) (g := (gTup K 2 (gCons (gName 5) (gCons (gName 6) gNil)))) (tt := tYes) rfl sc_without.nd rfl rfl (DCS.sw_dict rfl rfl rfl (by decide +kernel)) (pi_items (pe_fld (pv 0) rfl)) (blkOk_by (N := ["state", "stamp", "fallen", "over", "each", "name", "item", "store"]) (sc := defScope s_without) (by decide +kernel)) (fun _ _ _ _ _ => pg_tup rfl (pgs_cons (pg_name (i := 5) sc_without.nd rfl (.inl rfl)) (pgs_cons (pg_name (i := 6) sc_without.nd rfl (.inl rfl)) pgs_nil))) (fun _ _ _ _ _ => pts_nil) (fun _ _ _ _ _ => (pv 5)) (fun _ _ _ _ _ => (pe_call (ok_released T) (hr.mono (by decide)) (by rfl) T.g_released T.F_released.kp (b_released T) .nil pass0 (pa_cons (pv 6) (pa_cons (pv 2) pa_nil))))))
 (pss_one (ps_ret (pe_tup (pa_cons (pe_make T.mk_State (ok_State_init T) (hr.mono (by decide)) (by rfl) T.g_State (b_State_init T) .nil pass0 (pa_cons (pv 7) (pa_cons (pv 3) (pa_cons (pe_fld (pv 0) rfl) pa_nil)))) (pa_cons (pv 2) pa_nil)))))))), ?_⟩
    refine ⟨_, rfl, _, rfl, p, s, U, N, σ, rfl, st, hs, hU, fun H1 f L s1 nf hF hLU hf => ?_⟩
    rw [fal_eq hF] at kk
    obtain ⟨dx, ds, dv, db, hp, n1, n2, n3, D1, D2, D3⟩ := (st.same s1).ex
    obtain ⟨sv, hsv, snd, hSt⟩ := D1.ex
    obtain ⟨ov, hov, ond, hO⟩ := D2.ex
    obtain ⟨bv, hbv, bnd, hB⟩ := D3.ex
    refine ⟨_, rfl, p, T.c_State, dx, _, _, rfl, hp, T.cl_State, T.na_State_over, rfl, dv, ov, rfl, .inl hov, fun B nB => ?_⟩
    have s2 := same_new (o := .dK ov) (Same.refl H1) nB
    have hBo : (upd H1 B (.dK ov)) B = some (.dK ov) := upd_same
    have fB : f ≠ B := ne_of_none hf nB
    generalize upd H1 B (.dK ov) = H2 at s2 hBo
    have hf2 := s2 _ _ hf
    refine ⟨fun τ H' => ∃ (v4 : Option V) (ov' : List (Key × V)), τ = [some (.ref p), some (.int s), some (.ref f), some (.ref B), v4, none, none, none] ∧ H' B = some (.dK ov') ∧ (∀ b o, b ≠ B → H2 b = some o → H' b = some o) ∧ (ov'.map (·.1)).Nodup ∧ ∀ k, POver U (fallS σ L) k (valV ov' k), ?_, ?_⟩
    · refine ⟨_, rfl, f, rfl, ⟨_, SqT.of hf2⟩, for_tup (xs := L.map V.int) (fun i τ H' => ∃ (v4 : Option V) (ov' : List (Key × V)), τ = [some (.ref p), some (.int s), some (.ref f), some (.ref B), v4, none, none, none] ∧ H' B = some (.dK ov') ∧ (∀ b o, b ≠ B → H2 b = some o → H' b = some o) ∧ (ov'.map (·.1)).Nodup ∧ ∀ k, POver U ⟨σ.it, fun t => if t ∈ L.take i then some false else σ.ov t, σ.bd⟩ k (valV ov' k))
        ⟨none, ov, rfl, hBo, fun _ _ _ z => z, ond, over_congr hO fun x => (if_neg (fun z => by cases z) : (if x ∈ L.take 0 then some false else σ.ov x) = σ.ov x)⟩ ?_ ?_ ?_⟩
      · rintro i τ H' _ ⟨v4, ov', _, _, b2, _⟩
        exact SqT.of (b2 _ _ fB hf2)
      · rintro i x τ H' hx ⟨v4, ov', rfl, hB', b2, nd', hO'⟩
        obtain ⟨t, ht, rfl⟩ := ints_at' hx
        have tU := hLU t (List.mem_of_getElem? ht)
        have et : L.take (i + 1) = L.take i ++ [t] := by rw [List.take_add_one, ht]; rfl
        have pu := over_put (σ' := ⟨σ.it, fun x => if x ∈ L.take (i + 1) then some false else σ.ov x, σ.bd⟩) (b := false) nd' hO' tU (by show (if t ∈ L.take (i + 1) then some false else σ.ov t) = some false; rw [et]; exact if_pos (List.mem_append.mpr (.inr (List.mem_singleton.mpr rfl)))) fun y ny => by
          show (if y ∈ L.take (i + 1) then some false else σ.ov y) = if y ∈ L.take i then some false else σ.ov y
          have : (y ∈ L.take (i + 1)) ↔ y ∈ L.take i := by rw [et]; exact ⟨fun z => (List.mem_append.mp z).elim id fun q => absurd (List.mem_singleton.mp q) ny, fun z => List.mem_append.mpr (.inl z)⟩
          by_cases q : y ∈ L.take i
          · rw [if_pos q, if_pos (this.mpr q)]
          · rw [if_neg q, if_neg fun z => q (this.mp z)]
        refine ⟨_, rfl, _, rfl, B, _, rfl, DPut.k (k := Sum.inl t) hB' (small1000 (by have := len_over nd' hO'; omega)), ⟨_, _, rfl, upd_same, fun b o nb z => by rw [upd_ne nb]; exact b2 b o nb z, pu.1, pu.2⟩⟩
      · rintro τ H' ⟨v4, ov', rfl, hB', b2, nd', hO'⟩
        rw [List.length_map, List.take_length] at hO'
        exact ⟨v4, ov', rfl, hB', b2, nd', hO'⟩
    rintro τ H3 ⟨v4, ov', rfl, hB3, b3, ond', hO3⟩
    have s3 : Same H1 H3 := fun b o z => b3 b o (ne_of_none z nB) (s2 b o z)
    have hsv3 := s3 _ _ hsv
    have hp3 := s3 _ _ hp
    have hf3 := s3 _ _ hf
    have hbv3 := s3 _ _ hbv
    have Bds : B ≠ ds := fun z => by rw [z, hsv] at nB; cases nB
    have Bdb : B ≠ db := fun z => by rw [z, hbv] at nB; cases nB
    have pds : p ≠ ds := fun z => by rw [z, hsv] at hp; cases hp
    have fds : f ≠ ds := fun z => by rw [z, hsv] at hf; cases hf
    refine ⟨fun τ H' => ∃ (D : Addr) (nkv : List (Key × V)), τ = [some (.ref p), some (.int s), some (.ref f), some (.ref B), v4, none, none, some (.ref D)] ∧ H' D = some (.dK nkv) ∧ Same H3 H' ∧ H3 D = none ∧ (nkv.map (·.1)).Nodup ∧ ∀ k, PStore T.c_Item U N H' (fallS σ L) k (valV nkv k), ?_, ?_⟩
    · refine ⟨ds, .dK sv, hsv3, trivial, fun od => ?_⟩
      have hpL : (upd H3 ds (.frz od (.dK sv))) p = _ := (upd_ne pds).trans hp3
      refine ⟨_, rfl, p, T.c_State, dx, _, _, rfl, hpL, T.cl_State, T.na_State_store, rfl, ds, od, sv, rfl, upd_same, fun D nD => ?_⟩
      have l0 : LockS ds od (.dK sv) H3 (upd H3 ds (.frz od (.dK sv))) := LockS.start
      have nD3 : H3 D = none := l0.free nD hsv3
      have Dds : D ≠ ds := fun z => by rw [z, hsv3] at nD3; cases nD3
      have t3 : ∀ {H'}, LockS ds od (.dK sv) H3 H' → SameT H1 H' := fun {H'} l b o st z => l.but b o (fun q => by rw [q, hsv] at z; cases z; exact st) (s3 b o z)
      refine dc_it walk_items (fun i H' => ∃ nkv : List (Key × V), H' D = some (.dK nkv) ∧ LockS ds od (.dK sv) H3 H' ∧ Made sv nkv i (RSt T.c_Item U N H' fun n => relI L (σ.it n)))
        ⟨[], upd_same, l0.new nD, Made.nil⟩ (fun i H' _ ⟨_, _, l, _⟩ => l.at_) ?_ ?_
      · rintro i x H4 H5 hi ⟨nkv, hD, l4, md⟩ ⟨T', x1, x2, rfl, nT, rfl, e1, e2⟩
        have e1 : sv[i]?.map (fun kv => kV kv.1) = some x1 := e1
        have e2 : sv[i]?.map Prod.snd = some x2 := e2
        cases hq : sv[i]? with
        | none => rw [hq] at e1; cases e1
        | some kv =>
        obtain ⟨kk', v⟩ := kv
        rw [hq] at e1 e2
        cases e1
        cases e2
        have hb := hSt kk'
        rw [val_at snd hq] at hb
        cases kk' with
        | inl _ => cases hb
        | inr n =>
        obtain ⟨q, rfl, nN, hI, wf⟩ := hb
        have l5 := l4.new (o := .tup [kV (Sum.inr n), .ref q]) nT
        have hD5 := kp (o' := .tup [kV (Sum.inr n), .ref q]) nT hD
        have t45 : SameT H4 (upd H4 T' (.tup [kV (Sum.inr n), .ref q])) := SameT.new nT
        have hT5 : (upd H4 T' (.tup [kV (Sum.inr n), .ref q])) T' = some (.tup [kV (Sum.inr n), .ref q]) := upd_same
        generalize upd H4 T' (.tup [kV (Sum.inr n), .ref q]) = H5 at l5 hD5 hT5 t45
        refine ⟨T', _, rfl, SqT.of hT5, rfl, _, _, rfl, _, _, rfl, rfl, rfl, ?_⟩
        refine ⟨_, rfl, _, rfl, _, rfl, q, f, σ.it n, L, rfl, hI.sameT (t3 l5), l5.but _ _ fds hf3, fun H6 q' sm hI6 => ?_⟩
        have hD6 := sm _ _ hD5
        refine ⟨_, Sum.inr n, rfl, hD6, small1000 (by have := md.len; have := len_store snd hSt; omega), putK nkv (Sum.inr n) (.ref q'), upd_same, (l5.same sm).put nD3 Dds, ?_⟩
        have t6 : SameT H6 (upd H6 D (.dK (putK nkv (Sum.inr n) (.ref q')))) := SameT.chg hD6 (fun z => z)
        exact ((md.mono (RSt.sameT ((t45.trans (SameT.of sm))))).step snd hq ⟨n, q', rfl, rfl, nN, hI6, wf.rel⟩).mono (RSt.sameT t6)
      · rintro H4 ⟨nkv, hD, l4, md⟩
        refine ⟨l4.at_, ?_⟩
        have tu : SameT H4 (upd H4 ds (.dK sv)) := SameT.chg l4.at_ (fun z => z)
        have sm := store_map (g := relI L) (σ' := fallS σ L) relI0 snd hSt (md.mono (RSt.sameT tu)) (fun _ => rfl)
        exact ⟨D, nkv, rfl, by rw [upd_ne Dds]; exact hD, l4.unlock hsv3, nD3, sm.1, sm.2⟩
    rintro τ H4 ⟨D, nkv, rfl, hD4, s4, nD, nnd, hN4⟩
    have two : 2 ≤ sizeLine := by decide
    refine ⟨_, rfl, _, rfl, _, rfl, p, T.c_State, dx, _, _, rfl, s4 _ _ hp3, T.cl_State, T.na_State_bonds, rfl, fun x dx' nx ndx ne => mk_state nx ndx fun H5 s5 hx => ⟨rfl, _, rfl, two, fun t nt => ?_⟩⟩
    have s6 := same_new (o := .tup [.ref x, .ref f]) s5 nt
    refine kk _ t (((s1.trans s3).trans s4).trans s6) ⟨x, f, upd_same, ⟨dx', D, B, db, kp nt hx, ?_, ?_, Bdb, ⟨nkv, s6 _ _ hD4, nnd, store_congr hN4 (SameT.of s6) fun _ => rfl⟩, ⟨ov', s6 _ _ (s4 _ _ hB3), ond', hO3⟩, ⟨bv, s6 _ _ (s4 _ _ hbv3), bnd, bond_congr hB ((s3.trans s4).trans s6) fun _ => rfl⟩⟩, s6 _ _ (s4 _ _ hf3)⟩ ⟨hLU, hF⟩
    · exact fun z => by rw [z, hB3] at nD; cases nD
    · exact fun z => by rw [z, hbv3] at nD; cases nD
end
end K11

namespace K11
open PySem L2 SI CM BK
section
variable {w : World} {K : PySem.W.Frag} {mg : Str → Option Value} {base : Heap} (T : Txt w K mg)
/-- an error's __init__ with one field -/
def spE1 (C : Addr) (f : Str) : Sp := fun vs H Q _ => ∃ a v, vs = [.ref a, v] ∧ H a = some (exo a C none) ∧ ∀ dx, H dx = none → dx ≠ a → Q .non (upd (upd H dx (exd dx [(f, v)])) a (exo a C (some dx)))
/-- .. with two -/
def spE2 (C : Addr) (f g : Str) : Sp := fun vs H Q _ => ∃ a v u, vs = [.ref a, v, u] ∧ H a = some (exo a C none) ∧ ∀ dx, H dx = none → dx ≠ a → Q .non (upd (upd H dx (exd dx [(g, u), (f, v)])) a (exo a C (some dx)))
theorem ok_BadEntry : FnOk PP w K mg base CX0 1 T.f_BadEntry_init T.d_BadEntry_init ["self", "entry"] (spE1 T.c_BadEntry "entry") := by
  refine ok_sup (N := ["self", "entry", "__class__"]) T.S_BadEntry_init sc_BadEntry_init rfl (show (defScope s_BadEntry_init).names.lookup ("super" : Str) = some .globalImplicit by decide +kernel) rfl rfl (fun vs H Q E h => ?_) (fun A outer s H vs Q E hr h => ?_)
  · obtain ⟨a, v, rfl, _⟩ := h
    rfl
  · obtain ⟨a, v, rfl, ha, k⟩ := h
    refine ⟨a, _, _, _, pa_cons pe_str pa_nil, pss_one (ps_ost (pv 0) (pv 1)), rfl, fun M B u Q' E' s' z => PySem.Calls.evalArgs_plain z, rfl, rfl, rfl, ha, by show 1 ≤ 1000; decide, ha, ?_⟩
    exact ⟨_, rfl, _, rfl, _, _, rfl, T.oex_BadEntry, T.na_BadEntry_entry, .inl ⟨ha, fun dx n ne => k dx n ne⟩⟩
theorem ok_BadAnswer : FnOk PP w K mg base CX0 1 T.f_BadAnswer_init T.d_BadAnswer_init ["self", "entry", "answer"] (spE2 T.c_BadAnswer "entry" "answer") := by
  refine ok_sup (N := ["self", "entry", "answer", "__class__"]) T.S_BadAnswer_init sc_BadAnswer_init rfl (show (defScope s_BadAnswer_init).names.lookup ("super" : Str) = some .globalImplicit by decide +kernel) rfl rfl (fun vs H Q E h => ?_) (fun A outer s H vs Q E hr h => ?_)
  · obtain ⟨a, v, u, rfl, _⟩ := h
    rfl
  · obtain ⟨a, v, u, rfl, ha, k⟩ := h
    refine ⟨a, _, _, _, pa_cons pe_str pa_nil, pss_cons (ps_ost (pv 0) (pv 1)) (pss_one (ps_ost (pv 0) (pv 2))), rfl, fun M B u Q' E' s' z => PySem.Calls.evalArgs_plain z, rfl, rfl, rfl, ha, by show 1 ≤ 1000; decide, ha, ?_⟩
    refine ⟨_, rfl, _, rfl, _, _, rfl, T.oex_BadAnswer, T.na_BadAnswer_entry, .inl ⟨ha, fun dx n ne => ?_⟩⟩
    refine ⟨_, rfl, _, rfl, _, _, rfl, T.oex_BadAnswer, T.na_BadAnswer_answer, .inr ⟨dx, _, upd_same, by rw [upd_ne ne, upd_same], Nat.le_of_ble_eq_true rfl, ?_⟩⟩
    have z := k dx n ne
    rw [← upd_swap (o1 := exd dx [("entry", v)]) ne] at z
    exact z
/-- what raise of an error with one field asks, behind its arguments -/
theorem rz1 {C : Addr} {H : Hp} {v : V} {f : Str} {E : XK} (kF : ∀ d, H d = none → E (.ref C) (some d) (upd H d (.xd [(f, v)]))) :
    (1 : Nat) ≤ 1000 ∧ ∀ a, H a = none → spE1 C f ([V.ref a, v] ++ []) (upd H a (exo a C none)) (fun x H1 => x = .non ∧ ∃ d fs, H1 a = some (exo a C (some d)) ∧ H1 d = some (exd d fs) ∧ H d = none ∧ E (.ref C) (some d) (upd (del H1 a) d (.xd fs))) E0 := by
  refine ⟨by decide, fun a ha => ⟨a, v, rfl, upd_same, fun d hd hne => ⟨rfl, d, [(f, v)], upd_same, ?_, ?_, ?_⟩⟩⟩
  · rw [upd_ne hne, upd_same]
  · rw [upd_ne hne] at hd
    exact hd
  · rw [upd_ne hne] at hd
    have z := kF d hd
    rw [raise_heap ha]
    exact z
theorem rz2 {C : Addr} {H : Hp} {v u : V} {f g : Str} {E : XK} (kF : ∀ d, H d = none → E (.ref C) (some d) (upd H d (.xd [(g, u), (f, v)]))) :
    (2 : Nat) ≤ 1000 ∧ ∀ a, H a = none → spE2 C f g ([V.ref a, v, u] ++ []) (upd H a (exo a C none)) (fun x H1 => x = .non ∧ ∃ d fs, H1 a = some (exo a C (some d)) ∧ H1 d = some (exd d fs) ∧ H d = none ∧ E (.ref C) (some d) (upd (del H1 a) d (.xd fs))) E0 := by
  refine ⟨by decide, fun a ha => ⟨a, v, u, rfl, upd_same, fun d hd hne => ⟨rfl, d, [(g, u), (f, v)], upd_same, ?_, ?_, ?_⟩⟩⟩
  · rw [upd_ne hne, upd_same]
  · rw [upd_ne hne] at hd
    exact hd
  · rw [upd_ne hne] at hd
    have z := kF d hd
    rw [raise_heap ha]
    exact z
/-- the name is an entry -/
def isEnt (v : V) : Prop := ∃ e, v = .str e ∧ e ∈ ENT
def spAns (K : PySem.W.Frag) (C : Addr) : Sp := fun vs H Q E => ∃ v, vs = [v] ∧ flatV v = true ∧
  (∀ e, v = .str e → e ∈ ENT → ∀ p, (∀ H', SqT K H' p ((chs e).map V.str)) → Q (.ref p) H) ∧ (¬ isEnt v → ∀ d, H d = none → E (.ref C) (some d) (upd H d (.xd [(("entry" : Str), v)])))
theorem ans_at : ∀ e ∈ ENT, ∃ p, PySem.W.nsIn K T.o_ANSWERS e = some (some (.ref p)) ∧ ∀ H', SqT K H' p ((chs e).map V.str) := by
  intro e he
  simp only [ENT, List.mem_cons, List.not_mem_nil, or_false] at he
  rcases he with rfl | rfl | rfl | rfl | rfl | rfl | rfl | rfl | rfl | rfl | rfl | rfl | rfl | rfl
  · exact ⟨_, T.n0_ANSWERS, fun H' => by rw [show (chs "read late").map V.str = [.str "last", .str "old", .str "abort"] by decide +kernel]; exact T.q0_ANSWERS H'⟩
  · exact ⟨_, T.n1_ANSWERS, fun H' => by rw [show (chs "read under").map V.str = [.str "last", .str "old", .str "open", .str "wait", .str "abort"] by decide +kernel]; exact T.q1_ANSWERS H'⟩
  · exact ⟨_, T.n2_ANSWERS, fun H' => by rw [show (chs "read below").map V.str = [.str "last", .str "open", .str "wait", .str "abort"] by decide +kernel]; exact T.q2_ANSWERS H'⟩
  · exact ⟨_, T.n3_ANSWERS, fun H' => by rw [show (chs "read above").map V.str = [.str "last", .str "open", .str "wait", .str "abort"] by decide +kernel]; exact T.q3_ANSWERS H'⟩
  · exact ⟨_, T.n4_ANSWERS, fun H' => by rw [show (chs "write late").map V.str = [.str "skip", .str "abort"] by decide +kernel]; exact T.q4_ANSWERS H'⟩
  · exact ⟨_, T.n5_ANSWERS, fun H' => by rw [show (chs "write under").map V.str = [.str "skip", .str "wait", .str "wound", .str "abort"] by decide +kernel]; exact T.q5_ANSWERS H'⟩
  · exact ⟨_, T.n6_ANSWERS, fun H' => by rw [show (chs "write below").map V.str = [.str "skip", .str "wait", .str "wound", .str "abort"] by decide +kernel]; exact T.q6_ANSWERS H'⟩
  · exact ⟨_, T.n7_ANSWERS, fun H' => by rw [show (chs "write above").map V.str = [.str "skip", .str "wait", .str "wound", .str "abort"] by decide +kernel]; exact T.q7_ANSWERS H'⟩
  · exact ⟨_, T.n8_ANSWERS, fun H' => by rw [show (chs "write free passed").map V.str = [.str "put", .str "abort"] by decide +kernel]; exact T.q8_ANSWERS H'⟩
  · exact ⟨_, T.n9_ANSWERS, fun H' => by rw [show (chs "write own passed").map V.str = [.str "put", .str "abort"] by decide +kernel]; exact T.q9_ANSWERS H'⟩
  · exact ⟨_, T.n10_ANSWERS, fun H' => by rw [show (chs "write late passed").map V.str = [.str "skip", .str "abort"] by decide +kernel]; exact T.q10_ANSWERS H'⟩
  · exact ⟨_, T.n11_ANSWERS, fun H' => by rw [show (chs "write under passed").map V.str = [.str "skip", .str "wait", .str "wound", .str "abort"] by decide +kernel]; exact T.q11_ANSWERS H'⟩
  · exact ⟨_, T.n12_ANSWERS, fun H' => by rw [show (chs "write below passed").map V.str = [.str "skip", .str "wait", .str "wound", .str "abort"] by decide +kernel]; exact T.q12_ANSWERS H'⟩
  · exact ⟨_, T.n13_ANSWERS, fun H' => by rw [show (chs "write above passed").map V.str = [.str "skip", .str "wait", .str "wound", .str "abort"] by decide +kernel]; exact T.q13_ANSWERS H'⟩
theorem ok_answers_at : FnOk PP w K mg base (L2.CX PP w) 4 T.f_answers_at T.d_answers_at ["entry"] (spAns K T.c_BadEntry) := by
  refine T.F_answers_at.okX sc_answers_at (fun vs H Q E h => ?_) (fun cdv A outer s H vs Q E hr h => ?_)
  · obtain ⟨v, rfl, _⟩ := h
    rfl
  · obtain ⟨v, rfl, fv, kT, kF⟩ := h
    refine ⟨_, pss_cons (ps_if (pt_cmpR op_notIn_seq (pv 0) (pe_glob (v := .ref T.o_ENTRIES) (by rfl) T.g_ENTRIES rfl) rfl)
 (pss_one (ps_raise rfl (takes_of rfl rfl rfl rfl) (pmk_oex T.oex_BadEntry T.i_BadEntry_init T.t_BadEntry_init (ok_BadEntry T) (hr.mono (by decide)) (b_BadEntry_init T) .nil pass0 (by rfl) T.g_BadEntry (pa_cons (pv 0) pa_nil))))
 pss_nil)
 (pss_one (ps_ret (pe_ix (ix_kd T.kd_ANSWERS) (pe_glob (v := .ref T.o_ANSWERS) (by rfl) T.g_ANSWERS rfl) (pv 0) (fun _ _ => rfl)))), ?_⟩
    refine ⟨_, rfl, T.o_ENTRIES, ENT.map V.str, rfl, .inr (T.q_ENTRIES H), fv, flat_strs _, _, rfl, ?_⟩
    by_cases hE : isEnt v
    · obtain ⟨e, rfl, he⟩ := hE
      obtain ⟨p, hp, hq⟩ := ans_at T e he
      rw [inV_str, decide_eq_true he]
      exact iteF ⟨_, rfl, e, _, .ref p, rfl, rfl, hp, rfl, kT e rfl he p hq⟩
    · rw [inV_not fun e h1 h2 => hE ⟨e, h1, h2⟩]
      exact iteT ⟨_, rfl, rz1 (kF hE)⟩
end
end K11

namespace K11
open PySem L2 SI CM BK
section
variable {w : World} {K : PySem.W.Frag} {mg : Str → Option Value} {base : Heap} (T : Txt w K mg)
/-- the answer may stand at the entry -/
def isAns (e : Str) (v : V) : Prop := ∃ a, v = .str a ∧ a ∈ chs e
def spChk (B C : Addr) : Sp := fun vs H Q E => ∃ v u, vs = [v, u] ∧ flatV v = true ∧ flatV u = true ∧
  (∀ e, v = .str e → e ∈ ENT → isAns e u → Q .non H) ∧ (¬ isEnt v → ∀ d, H d = none → E (.ref B) (some d) (upd H d (.xd [(("entry" : Str), v)]))) ∧
  (∀ e, v = .str e → e ∈ ENT → ¬ isAns e u → ∀ d, H d = none → E (.ref C) (some d) (upd H d (.xd [(("answer" : Str), u), (("entry" : Str), v)])))
theorem ok_check_answer : FnOk PP w K mg base (L2.CX PP w) 5 T.f_check_answer T.d_check_answer ["entry", "answer"] (spChk T.c_BadEntry T.c_BadAnswer) := by
  refine T.F_check_answer.okX sc_check_answer (fun vs H Q E h => ?_) (fun cdv A outer s H vs Q E hr h => ?_)
  · obtain ⟨v, u, rfl, _⟩ := h
    rfl
  · obtain ⟨v, u, rfl, fv, fu, kT, kF, kG⟩ := h
    refine ⟨_, pss_one (ps_if (pt_cmpR op_notIn_seq (pv 1) (pe_call (ok_answers_at T) (hr.mono (by decide)) (by rfl) T.g_answers_at T.F_answers_at.kp (b_answers_at T) .nil (passes_call (takes_of rfl rfl rfl rfl) fun _ _ _ _ h => h) (pa_cons (pv 0) pa_nil)) rfl)
 (pss_one (ps_raise rfl (takes_of rfl rfl rfl rfl) (pmk_oex T.oex_BadAnswer T.i_BadAnswer_init T.t_BadAnswer_init (ok_BadAnswer T) (hr.mono (by decide)) (b_BadAnswer_init T) .nil pass0 (by rfl) T.g_BadAnswer (pa_cons (pv 0) (pa_cons (pv 1) pa_nil)))))
 pss_nil), ?_⟩
    refine ⟨_, rfl, _, rfl, v, rfl, fv, fun e he hE p hp => ?_, kF⟩
    subst he
    refine ⟨p, (chs e).map V.str, rfl, .inr (hp H), fu, flat_strs _, _, rfl, ?_⟩
    by_cases hA : isAns e u
    · obtain ⟨a, rfl, ha⟩ := hA
      rw [inV_str, decide_eq_true ha]
      exact iteF (kT e rfl hE ⟨a, rfl, ha⟩)
    · rw [inV_not fun a h1 h2 => hA ⟨a, h1, h2⟩]
      exact iteT ⟨_, rfl, _, rfl, rz2 (kG e rfl hE hA)⟩
/-- a number of kept versions -/
def keepV : V → Bool
  | .int n => decide (1 ≤ n) && decide (n ≤ 20)
  | _ => false
def spKeep : Sp := fun vs H Q _ => ∃ v, vs = [v] ∧ flatV v = true ∧ Q (.bl (keepV v)) H
theorem ok_is_keep : FnOk PP w K mg base CX0 1 T.f_is_keep T.d_is_keep ["keep"] spKeep := by
  refine T.F_is_keep.ok sc_is_keep (fun vs H Q E h => ?_) (fun cdv A outer s H vs Q E hr h => ?_)
  · obtain ⟨v, rfl, _⟩ := h
    rfl
  · obtain ⟨v, rfl, fv, k⟩ := h
    obtain ⟨t0, hG⟩ := T.g_MOST_KEPT
    refine ⟨_, pss_cons (ps_if (PW.pt (pw_or (pt_val (pe_callB call_isi (by rfl) T.n_isinstance (by decide +kernel) (pa_cons (pv 0) (pa_cons (pe_bltn (v := .ty "bool") (by rfl) T.n_bool (by decide +kernel) rfl) pa_nil)))) (pw_or1 (pt_not (pt_val (pe_callB call_isi (by rfl) T.n_isinstance (by decide +kernel) (pa_cons (pv 0) (pa_cons (pe_bltn (v := .ty "int") (by rfl) T.n_int (by decide +kernel) rfl) pa_nil))))))))
 (pss_one (ps_ret pe_bl))
 pss_nil)
 (pss_one (ps_ret (pe_chain op_le op_le pe_int (pv 0) (pe_glob (v := .int 20) (by rfl) hG ⟨_, rfl⟩)))), ?_⟩
    cases v with
    | int n =>
      refine ⟨_, rfl, _, _, _, _, false, rfl, ClsV.ty _, .base (.int _), kit_ty (by decide +kernel), _, rfl, ?_⟩
      refine iteF ⟨_, rfl, _, _, _, _, true, rfl, ClsV.ty _, .base (.int _), kit_ty (by decide +kernel), _, rfl, ?_⟩
      refine iteF ?_
      refine ⟨_, rfl, _, _, rfl, rfl, _, rfl, ?_⟩
      have kk : keepV (.int n) = (decide (1 ≤ n) && decide (n ≤ 20)) := rfl
      rw [kk] at k
      by_cases h : (1 : Int) ≤ n
      · rw [decide_eq_true h] at k ⊢
        exact iteT ⟨_, _, rfl, rfl, k⟩
      · rw [decide_eq_false h] at k ⊢
        exact iteF k
    | bl b =>
      refine ⟨_, rfl, _, _, _, _, true, rfl, ClsV.ty _, .base (.bl _), kit_ty (by decide +kernel), _, rfl, ?_⟩
      exact iteT k
    | str z =>
      refine ⟨_, rfl, _, _, _, _, false, rfl, ClsV.ty _, .base (.str _), kit_ty (by decide +kernel), _, rfl, ?_⟩
      refine iteF ⟨_, rfl, _, _, _, _, false, rfl, ClsV.ty _, .base (.str _), kit_ty (by decide +kernel), _, rfl, ?_⟩
      exact iteT k
    | non =>
      refine ⟨_, rfl, _, _, _, _, false, rfl, ClsV.ty _, .base .non, kit_ty (by decide +kernel), _, rfl, ?_⟩
      refine iteF ⟨_, rfl, _, _, _, _, false, rfl, ClsV.ty _, .base .non, kit_ty (by decide +kernel), _, rfl, ?_⟩
      exact iteT k
    | _ => cases fv
end
end K11

namespace K11
open PySem L2 SI CM BK OWN
section
variable {w : World} {K : PySem.W.Frag} {mg : Str → Option Value} {base : Heap} (T : Txt w K mg)
theorem ok_BadSetting : FnOk PP w K mg base CX0 1 T.f_BadSetting_init T.d_BadSetting_init ["self", "given"] (spE1 T.c_BadSetting "given") := by
  refine ok_sup (N := ["self", "given", "__class__"]) T.S_BadSetting_init sc_BadSetting_init rfl (show (defScope s_BadSetting_init).names.lookup ("super" : Str) = some .globalImplicit by decide +kernel) rfl rfl (fun vs H Q E h => ?_) (fun A outer s H vs Q E hr h => ?_)
  · obtain ⟨a, v, rfl, _⟩ := h
    rfl
  · obtain ⟨a, v, rfl, ha, k⟩ := h
    refine ⟨a, _, _, _, pa_cons pe_str pa_nil, pss_one (ps_ost (pv 0) (pv 1)), rfl, fun M B u Q' E' s' z => PySem.Calls.evalArgs_plain z, rfl, rfl, rfl, ha, by show 1 ≤ 1000; decide, ha, ?_⟩
    exact ⟨_, rfl, _, rfl, _, _, rfl, T.oex_BadSetting, T.na_BadSetting_given, .inl ⟨ha, fun dx n ne => k dx n ne⟩⟩
abbrev NAE : List Str := ["now", "after"]
/-- a way to end -/
def isEnds (v : V) : Prop := v = .str "now" ∨ v = .str "after"
/-- nothing given, or a dict of these pairs -/
def Giv (H : Hp) (g : V) (gv : List (Str × V)) : Prop := (g = .non ∧ gv = []) ∨ ∃ a, g = .ref a ∧ H a = some (.dK (prs gv))
structure Bad (H : Hp) (p : Addr) (g : V) (gv : List (Str × V)) (H' : Hp) : Prop where
  but : ∀ b o, b ≠ p → g ≠ .ref b → H b = some o → H' b = some o
  giv : ∀ a, g = .ref a → ∃ o, H' a = some (.frz o (.dK (prs gv)))
structure InitP (C S B A : Addr) (p dx : Addr) (g : V) (gv : List (Str × V)) (en ke : V) (H : Hp) (Q : VK) (E : XK) : Prop where
  ok : ∀ e k, en = .str e → isEnds en → ke = .int k → keepV ke = true → (∀ q ∈ gv, okPair q = true) → ∀ H' d, But p H H' → H d = none → Bk C H' p dx d (fill gv fun _ => "abort") e k → Q .non H'
  bE : ¬ isEnds en → ∀ H' x, Same H H' → H x = none → H' x = some (.xd [(("given" : Str), en)]) → E (.ref S) (some x) H'
  bK : isEnds en → keepV ke = false → ∀ H' x, Same H H' → H x = none → H' x = some (.xd [(("given" : Str), ke)]) → E (.ref S) (some x) H'
  bB : isEnds en → keepV ke = true → ∀ pre q post, gv = pre ++ q :: post → (∀ z ∈ pre, okPair z = true) → q.1 ∉ ENT → ∀ H' x, Bad H p g gv H' → H x = none → H' x = some (.xd [(("entry" : Str), .str q.1)]) → E (.ref B) (some x) H'
  bA : isEnds en → keepV ke = true → ∀ pre q post, gv = pre ++ q :: post → (∀ z ∈ pre, okPair z = true) → q.1 ∈ ENT → isAnsB q.1 q.2 = false → ∀ H' x, Bad H p g gv H' → H x = none → H' x = some (.xd [(("answer" : Str), q.2), (("entry" : Str), .str q.1)]) → E (.ref A) (some x) H'
def spInit (C S B A : Addr) : Sp := fun vs H Q E => ∃ p dx g gv en ke, vs = [.ref p, g, en, ke] ∧ H p = some (.ins C dx []) ∧ flatV en = true ∧ flatV ke = true ∧ Giv H g gv ∧ (∀ q ∈ gv, flatV q.2 = true) ∧ InitP C S B A p dx g gv en ke H Q E
theorem ok_Book_init : FnOk PP w K mg base (L2.CX PP w) 6 T.f_Book_init T.d_Book_init ["self", "answers", "ends", "keep"] (spInit T.c_Book T.c_BadSetting T.c_BadEntry T.c_BadAnswer) := by
  refine T.F_Book_init.ok (CX := L2.CX PP w) sc_Book_init (fun vs H Q E h => ?_) (fun cdv A outer s H vs Q E hr h => ?_)
  · obtain ⟨p, dx, g, gv, en, ke, rfl, _⟩ := h
    rfl
  · obtain ⟨p, dx, g, gv, en, ke, rfl, hp, fe, fk, hg, hf, P⟩ := h
    refine ⟨_, pss_cons (ps_if (pt_cmpR op_notIn_seq (pv 2) (pe_tup (pa_cons pe_str (pa_cons pe_str pa_nil))) rfl)
 (pss_one (ps_raise rfl (takes_of rfl rfl rfl rfl) (pmk_oex T.oex_BadSetting T.i_BadSetting_init T.t_BadSetting_init (ok_BadSetting T) (hr.mono (by decide)) (b_BadSetting_init T) .nil pass0 (by rfl) T.g_BadSetting (pa_cons (pv 2) pa_nil))))
 pss_nil)
 (pss_cons (ps_if (pt_not (pt_val (pe_call (ok_is_keep T) (hr.mono (by decide)) (by rfl) T.g_is_keep T.F_is_keep.kp (b_is_keep T) .nil pass0 (pa_cons (pv 3) pa_nil))))
 (pss_one (ps_raise rfl (takes_of rfl rfl rfl rfl) (pmk_oex T.oex_BadSetting T.i_BadSetting_init T.t_BadSetting_init (ok_BadSetting T) (hr.mono (by decide)) (b_BadSetting_init T) .nil pass0 (by rfl) T.g_BadSetting (pa_cons (pv 3) pa_nil))))
 pss_nil)
 (pss_cons (ps_fld (pv 0) (pv 2) rfl)
 (C8.pss_cut (ps_fld (pv 0) (pv 3) rfl)
 (C8.pss_cut (ps_fld (pv 0) (pe_dc (own := [("entry", 4)]) (g := gName 4) (tt := tYes) rfl sc_Book_init.nd (pi_tup (pe_glob (v := .ref T.o_ENTRIES) (by rfl) T.g_ENTRIES rfl)) (blkOk_by (N := ["self", "answers", "ends", "keep", "entry", "given", "answer"]) (sc := defScope s_Book_init) (by decide +kernel)) (fun _ _ _ _ _ => pg_name (i := 4) sc_Book_init.nd rfl (Or.inl rfl)) (fun _ _ _ _ _ => pts_nil) (fun _ _ _ _ _ => pv 4) (fun _ _ _ _ _ => pe_str)) rfl)
 (C8.pss_cut (ps_set (i := 5) sc_Book_init.nd rfl (.inl rfl) (pe_ifExp (pt_cmpR op_isN (pv 1) pe_non (nomark _)) pe_dnewK (pv 1)))
 (pss_one (ps_lock (ps_for (passes_of rfl) rfl (pi_items (pv 5)) (pg_tup rfl (pgs_cons (pg_name (i := 4) sc_Book_init.nd rfl (.inl rfl)) (pgs_cons (pg_name (i := 6) sc_Book_init.nd rfl (.inl rfl)) pgs_nil)))
 (pss_cons (ps_expr (pe_call (ok_check_answer T) (hr.mono (by decide)) (by rfl) T.g_check_answer T.F_check_answer.kp (b_check_answer T) .nil (passes_call (takes_of rfl rfl rfl rfl) fun _ _ _ _ h => h) (pa_cons (pv 4) (pa_cons (pv 6) pa_nil))))
 (pss_one (ps_dput (hu_of hr) (pe_fld (pv 0) rfl) (pv 4) (pv 6) rfl))))))))))), ?_⟩
    have two : 2 ≤ sizeLine := by decide
    refine ⟨_, rfl, two, fun t nt => ⟨t, NAE.map V.str, rfl, .inr (SqT.of upd_same), fe, flat_strs _, _, rfl, ?_⟩⟩
    have s0 : Same H (upd H t (.tup (NAE.map V.str))) := same_new (Same.refl H) nt
    have hE : inV en (NAE.map V.str) = true ↔ isEnds en := by
      constructor
      · intro z
        cases en with
        | str e =>
          rw [inV_str] at z
          have z := of_decide_eq_true z
          simp only [List.mem_cons, List.not_mem_nil, or_false] at z
          rcases z with rfl | rfl
          · exact .inl rfl
          · exact .inr rfl
        | _ => exact absurd z (by rw [inV_not (by intro e he; cases he)]; exact Bool.false_ne_true)
      · rintro (rfl | rfl) <;> decide +kernel
    by_cases hI : isEnds en
    case neg =>
      have z : inV en (NAE.map V.str) = false := by
        cases q : inV en (NAE.map V.str) with
        | false => rfl
        | true => exact absurd (hE.mp q) hI
      rw [z]
      exact iteT ⟨_, rfl, rz1 fun d hd => P.bE hI _ d (same_new s0 hd) (s0.free hd) upd_same⟩
    rw [hE.mpr hI]
    refine iteF ⟨_, rfl, ke, rfl, fk, _, rfl, ?_⟩
    cases hk : keepV ke with
    | false => exact iteT ⟨_, rfl, rz1 fun d hd => P.bK hI hk _ d (same_new s0 hd) (s0.free hd) upd_same⟩
    | true =>
    refine iteF ?_
    obtain ⟨e, rfl⟩ : ∃ e, en = .str e := by rcases hI with rfl | rfl <;> exact ⟨_, rfl⟩
    obtain ⟨k, rfl⟩ : ∃ k, ke = .int k := by
      cases ke with
      | int k => exact ⟨k, rfl⟩
      | _ => cases hk
    have hp0 := s0 _ _ hp
    refine ⟨_, rfl, _, rfl, p, T.c_Book, dx, _, rfl, hp0, T.cl_Book, T.na_Book__ends, by show 0 < 1000; decide, ?_⟩
    refine ⟨fun σ H1 => σ = [some (.ref p), some g, some (.str e), some (.int k), none, none, none] ∧ But p H H1 ∧ H1 p = some (.ins T.c_Book dx [(("_ends" : Str), .str e), (("_keep" : Str), .int k)]), ?_, ?_⟩
    · exact ⟨_, rfl, _, rfl, p, T.c_Book, dx, _, rfl, upd_same, T.cl_Book, T.na_Book__keep, by show 1 < 1000; decide, rfl, fun b o' hb z => by rw [upd_ne hb, upd_ne hb]; exact s0 b o' z, upd_same⟩
    rintro σ H1 ⟨rfl, b1, hp1⟩
    have f1 : ∀ {q : Addr}, H1 q = none → H q = none := fun {q} z => by
      cases hq : H q with
      | none => rfl
      | some o =>
        by_cases hb : q = p
        · rw [hb, hp1] at z; cases z
        · rw [b1 q o hb hq] at z; cases z
    refine ⟨fun σ H3 => ∃ d, σ = [some (.ref p), some g, some (.str e), some (.int k), none, none, none] ∧ But p H H3 ∧ H d = none ∧ Bk T.c_Book H3 p dx d (fun _ => "abort") e k, ?_, ?_⟩
    · refine ⟨_, rfl, ⟨_, T.q_ENTRIES _⟩, fun D nD => dc_tup (xs := ENT.map V.str) (fun i H' => H' D = some (.dK (tabS (ENT.take i) fun _ => "abort")) ∧ Same H1 H')
        ⟨upd_same, same_new (Same.refl H1) nD⟩ (fun i H' _ _ => T.q_ENTRIES H') ?_ ?_⟩
      · rintro i x H' hx ⟨hD, sm⟩
        rw [List.getElem?_map] at hx
        cases hq : ENT[i]? with
        | none => rw [hq] at hx; cases hx
        | some y =>
        rw [hq] at hx
        cases hx
        have hi : i < ENT.length := (List.getElem?_eq_some_iff.mp hq).1
        have hn : y ∉ ENT.take i := fun z => by
          obtain ⟨j, hj, ej⟩ := List.mem_iff_getElem.mp z
          rw [List.length_take] at hj
          rw [List.getElem_take] at ej
          have e2 := (List.pairwise_iff_getElem.mp ent_nodup) j i (by omega) hi (by omega)
          exact e2 (ej.trans (List.getElem?_eq_some_iff.mp hq).2.symm)
        refine ⟨rfl, _, rfl, _, Sum.inr y, rfl, hD, by rw [tab_len, List.length_take]; exact small1000 (by rw [ent_len] at hi ⊢; omega), ?_, ?_⟩
        · rw [upd_same, put_new (g := V.str) (a := ("abort" : Str)) hn, List.take_add_one, hq]
          have e3 : put (fun _ => ("abort" : Str)) y "abort" = (fun _ => ("abort" : Str)) := by funext z; unfold put; split <;> rfl
          rw [e3]
          rfl
        · intro b o z
          rw [upd_ne (ne_of_none z nD)]
          exact sm b o z
      rintro H2 ⟨hD, s2⟩
      rw [List.length_map, show ENT.take ENT.length = ENT from rfl] at hD
      have nDp : D ≠ p := fun z => by rw [z, hp1] at nD; cases nD
      exact ⟨_, rfl, p, T.c_Book, dx, _, rfl, s2 _ _ hp1, T.cl_Book, T.na_Book__answers, by show 2 < 1000; decide, D, rfl, fun b o' hb z => by rw [upd_ne hb]; exact s2 _ _ (b1 b o' hb z), f1 nD, upd_same, by rw [upd_ne nDp]; exact hD⟩
    rintro σ H3 ⟨d, rfl, b3, nd, B3⟩
    have hdp : d ≠ p := fun z => by rw [z, hp] at nd; cases nd
    refine ⟨fun σ H4 => ∃ ga, σ = [some (.ref p), some g, some (.str e), some (.int k), none, some (.ref ga), none] ∧ But p H H4 ∧ Bk T.c_Book H4 p dx d (fun _ => "abort") e k ∧ H4 ga = some (.dK (prs gv)) ∧ ga ≠ d ∧ ga ≠ p ∧ (g = .ref ga ∨ (g = .non ∧ H ga = none)), ?_, ?_⟩
    · refine ⟨_, rfl, rfl, _, rfl, ?_⟩
      rcases hg with ⟨rfl, rfl⟩ | ⟨a, rfl, ha⟩
      · refine iteT fun q nq => ⟨q, rfl, b3.same (same_new (Same.refl H3) nq), B3.same (same_new (Same.refl H3) nq), upd_same, fun z => ?_, fun z => ?_, .inr ⟨rfl, ?_⟩⟩
        · rw [z, B3.tbl] at nq; cases nq
        · rw [z, B3.ins] at nq; cases nq
        · cases hx : H q with
          | none => rfl
          | some o =>
            by_cases hb : q = p
            · rw [hb, B3.ins] at nq; cases nq
            · rw [b3 q o hb hx] at nq; cases nq
      · have hap : a ≠ p := fun z => by rw [z, hp] at ha; cases ha
        exact iteF ⟨_, rfl, a, rfl, b3, B3, b3 _ _ hap ha, fun z => (by rw [z, nd] at ha; cases ha), hap, .inl rfl⟩
    rintro σ H4 ⟨ga, rfl, b4, B4, hga, gad, gap, hgv⟩
    refine ⟨ga, .dK (prs gv), hga, trivial, fun od => ?_⟩
    have AB : (fun _ : Str => ("abort" : Str)) = fill (gv.take 0) (fun _ => "abort") := rfl
    refine ⟨_, rfl, ga, od, prs gv, rfl, upd_same, for_it walk_items (fun i σ H' => ∃ v4 v6, σ = [some (.ref p), some g, some (.str e), some (.int k), v4, some (.ref ga), v6] ∧ H' ga = some (.frz od (.dK (prs gv))) ∧
        Bk T.c_Book H' p dx d (fill (gv.take i) fun _ => "abort") e k ∧ (∀ q ∈ gv.take i, okPair q = true) ∧ (∀ b o, b ≠ p → b ≠ ga → H b = some o → H' b = some o))
      ⟨none, none, rfl, upd_same, ⟨by rw [upd_ne gap.symm]; exact B4.ins, by rw [upd_ne gad.symm]; exact B4.tbl⟩, (fun q hq => by cases hq), fun b o h1 h2 z => by rw [upd_ne h2]; exact b4 b o h1 z⟩ (fun i σ H' _ ⟨_, _, _, z, _⟩ => z) ?_ ?_⟩
    · rintro i x σ H5 H6 hi ⟨v4, v6, rfl, hga5, B5, ok5, b5⟩ ⟨T', x1, x2, rfl, nT, rfl, e1, e2⟩
      have e1 : (prs gv)[i]?.map (fun kv => kV kv.1) = some x1 := e1
      have e2 : (prs gv)[i]?.map Prod.snd = some x2 := e2
      cases hq : (prs gv)[i]? with
      | none => rw [hq] at e1; cases e1
      | some kv =>
      obtain ⟨kk, u⟩ := kv
      rw [hq] at e1 e2
      cases e1
      cases e2
      obtain ⟨en, hgi, rfl⟩ := prs_at hq
      have hfu : flatV u = true := hf _ (List.mem_of_getElem? hgi)
      have hmem : (en, u) ∈ gv := List.mem_of_getElem? hgi
      have hsplit : gv = gv.take i ++ (en, u) :: gv.drop (i + 1) := by
        have hl := (List.getElem?_eq_some_iff.mp hgi).1
        rw [← (List.getElem?_eq_some_iff.mp hgi).2, List.getElem_cons_drop, List.take_append_drop]
      have htake : gv.take (i + 1) = gv.take i ++ [(en, u)] := by rw [List.take_add_one, hgi] <;> rfl
      have s6 : Same H5 (upd H5 T' (.tup [kV (Sum.inr en), u])) := same_new (Same.refl H5) nT
      have badH : ∀ x o, upd H5 T' (.tup [kV (Sum.inr en), u]) x = none → Bad H p g gv (upd (upd H5 T' (.tup [kV (Sum.inr en), u])) x o) := fun x o nx => by
        have nb := same_new (o := o) s6 nx
        refine ⟨fun b o h1 h2 z => ?_, fun a ea => ⟨od, ?_⟩⟩
        · by_cases hb : b = ga
          · subst hb
            rcases hgv with hgv | ⟨hgv, _⟩
            · exact absurd hgv h2
            · rcases hg with ⟨_, rfl⟩ | ⟨a, ea, _⟩
              · cases hmem
              · rw [hgv] at ea; cases ea
          · exact nb b o (b5 b o h1 hb z)
        · rcases hgv with hgv | ⟨hgv, _⟩
          · rw [hgv] at ea
            cases ea
            exact nb _ _ hga5
          · rw [hgv] at ea; cases ea
      have freeH : ∀ x, upd H5 T' (.tup [kV (Sum.inr en), u]) x = none → H x = none := fun x nx => by
        cases hx : H x with
        | none => rfl
        | some o =>
          have n5 := s6.free nx
          by_cases h1 : x = p
          · rw [h1, B5.ins] at n5; cases n5
          · by_cases h2 : x = ga
            · rw [h2, hga5] at n5; cases n5
            · rw [b5 x o h1 h2 hx] at n5; cases n5
      refine ⟨T', _, rfl, SqT.of upd_same, rfl, _, _, rfl, _, _, rfl, rfl, ?_⟩
      have stay : ∀ x o, upd H5 T' (.tup [kV (Sum.inr en), u]) x = none → Same (upd H5 T' (.tup [kV (Sum.inr en), u])) (upd (upd H5 T' (.tup [kV (Sum.inr en), u])) x o) := fun x o nx => same_new (Same.refl _) nx
      refine ⟨_, rfl, _, rfl, .str en, u, rfl, rfl, hfu, fun e' he' hE' hA => ?_, fun hne x nx => ?_, fun e' he' hE' hA x nx => ?_⟩
      · cases he'
        obtain ⟨a, rfl, ha⟩ := hA
        have tdp : d ≠ T' := fun z => by rw [← z, B5.tbl] at nT; cases nT
        refine ⟨_, rfl, _, rfl, p, T.c_Book, dx, _, _, rfl, s6 _ _ B5.ins, T.cl_Book, T.na_Book__answers, rfl, _, rfl, d, _, rfl, DPut.k (k := Sum.inr en) (s6 _ _ B5.tbl) (by rw [tab_len]; exact small1000 (by decide)), ?_⟩
        refine ⟨_, _, rfl, by rw [upd_ne gad]; exact s6 _ _ hga5, ⟨by rw [upd_ne B5.ne]; exact s6 _ _ B5.ins, ?_⟩, fun q hq => ?_, fun b o h1 h2 z => ?_⟩
        · rw [upd_same, put_in (g := V.str) hE', htake, fill_snoc]
        · rw [htake] at hq
          rcases List.mem_append.mp hq with hq | hq
          · exact ok5 q hq
          · rw [List.mem_singleton.mp hq]
            show (decide (en ∈ ENT) && decide (a ∈ chs en)) = true
            rw [decide_eq_true hE', decide_eq_true ha]
            rfl
        · have hb : b ≠ d := fun q => by rw [q, nd] at z; cases z
          rw [upd_ne hb]
          exact s6 _ _ (b5 b o h1 h2 z)
      · refine P.bB hI hk (gv.take i) (en, u) (gv.drop (i + 1)) hsplit ok5 (fun hE' => hne ⟨en, rfl, hE'⟩) _ x (badH x _ nx) (freeH x nx) upd_same
      · cases he'
        have hb : isAnsB en u = false := by
          cases q : isAnsB en u with
          | false => rfl
          | true =>
            cases u with
            | str a => exact absurd ⟨a, rfl, of_decide_eq_true q⟩ hA
            | _ => cases q
        exact P.bA hI hk (gv.take i) (en, u) (gv.drop (i + 1)) hsplit ok5 hE' hb _ x (badH x _ nx) (freeH x nx) upd_same
    · rintro σ H5 ⟨v4, v6, rfl, hga5, B5, ok5, b5⟩
      have et : gv.take (prs gv).length = gv := by rw [prs_len, List.take_length]
      rw [et] at B5 ok5
      refine ⟨hga5, P.ok e k rfl hI rfl hk ok5 _ d (fun b o h1 z => ?_) nd ⟨by rw [upd_ne gap.symm]; exact B5.ins, by rw [upd_ne gad.symm]; exact B5.tbl⟩⟩
      by_cases hb : b = ga
      · subst hb
        rw [upd_same]
        rcases hgv with hgv | ⟨hgv, nga⟩
        · rcases hg with ⟨z0, _⟩ | ⟨a, ea, ha⟩
          · rw [hgv] at z0; cases z0
          · rw [hgv] at ea
            cases ea
            rw [← ha]
            exact z
        · exfalso
          rw [nga] at z
          cases z
      · rw [upd_ne hb]
        exact b5 b o h1 hb z
end
end K11

namespace K11
open PySem L2 SI CM BK OWN
section
variable {w : World} {K : PySem.W.Frag} {mg : Str → Option Value} {base : Heap} (T : Txt w K mg)
/-- the properties -/
def spProp (C : Addr) (r : Str → Int → V) : Sp := fun vs H Q _ => ∃ b dx d f e k, vs = [.ref b] ∧ Bk C H b dx d f e k ∧ Q (r e k) H
theorem ok_ends : FnOk PP w K mg base CX0 1 T.f_Book_ends T.d_Book_ends ["self"] (spProp T.c_Book fun e _ => .str e) := by
  refine T.F_Book_ends.ok sc_Book_ends (fun vs H Q E h => ?_) (fun cdv A outer s H vs Q E hr h => ?_)
  · obtain ⟨b, dx, d, f, e, k, rfl, _⟩ := h
    rfl
  · obtain ⟨b, dx, d, f, e, k, rfl, B, q⟩ := h
    refine ⟨_, pss_one (ps_ret (pe_fld (pv 0) rfl)), ?_⟩
    exact ⟨_, rfl, b, T.c_Book, dx, _, _, rfl, B.ins, T.cl_Book, T.na_Book__ends, rfl, q⟩
theorem ok_keep : FnOk PP w K mg base CX0 1 T.f_Book_keep T.d_Book_keep ["self"] (spProp T.c_Book fun _ k => .int k) := by
  refine T.F_Book_keep.ok sc_Book_keep (fun vs H Q E h => ?_) (fun cdv A outer s H vs Q E hr h => ?_)
  · obtain ⟨b, dx, d, f, e, k, rfl, _⟩ := h
    rfl
  · obtain ⟨b, dx, d, f, e, k, rfl, B, q⟩ := h
    refine ⟨_, pss_one (ps_ret (pe_fld (pv 0) rfl)), ?_⟩
    exact ⟨_, rfl, b, T.c_Book, dx, _, _, rfl, B.ins, T.cl_Book, T.na_Book__keep, rfl, q⟩
end
end K11

namespace K11
open PySem L2 SI CM BK OWN MIR StX TX TL
section
variable {w : World} {K : PySem.W.Frag} {mg : Str → Option Value} {base : Heap} (T : Txt w K mg)
def spAborted (CS CI : Addr) : Sp := fun vs H Q _ => ∃ (p m : Addr) (s : Int) (met : List Str) (U : List Int) (N : List Str) (σ : MIR.S), vs = [.ref p, .int s, .ref m] ∧ StAt CS CI U N H p σ ∧ s ∈ U ∧ U.length ≤ 400 ∧ N.length ≤ 400 ∧ H m = some (.tup (met.map V.str)) ∧
  ∀ (H' : Hp) (q : Addr), Same H H' → PairAt CS CI U N H' q (fallS σ (fal σ s), ⟨"abort", met, .non, fal σ s⟩) → ((∀ t ∈ fal σ s, t ∈ U) ∧ IsF σ s (fal σ s)) → Q (.ref q) H'
theorem ok_aborted : FnOk PP w K mg base CX0 6 T.f_aborted T.d_aborted ["state", "stamp", "met"] (spAborted T.c_State T.c_Item) := by
  refine T.F_aborted.ok sc_aborted (fun vs H Q E h => ?_) (fun cdv A outer s H vs Q E hr h => ?_)
  · obtain ⟨p, m, s, met, U, N, σ, rfl, _⟩ := h
    rfl
  · obtain ⟨p, m, s, met, U, N, σ, rfl, st, hs, hU, hN, hm, kk⟩ := h
    refine ⟨_, pss_cons (ps_asg (pe_call (ok_without T) (hr.mono (by decide)) (by rfl) T.g_without T.F_without.kp (b_without T) .nil pass0 (pa_cons (pv 0) (pa_cons (pv 1) pa_nil))) (pg_tup rfl (pgs_cons (pg_name (i := 3) sc_aborted.nd rfl (.inl rfl)) (pgs_cons (pg_name (i := 4) sc_aborted.nd rfl (.inl rfl)) pgs_nil))))
 (pss_one (ps_ret (pe_tup (pa_cons (pv 3) (pa_cons (pe_tup (pa_cons pe_str (pa_cons (pv 2) (pa_cons pe_non (pa_cons (pv 4) pa_nil))))) pa_nil))))), ?_⟩
    have two : 2 ≤ sizeLine := by decide
    have four : 4 ≤ sizeLine := by decide
    refine ⟨_, rfl, _, rfl, p, s, U, N, σ, rfl, st, hs, hU, hN, fun H1 q s1 ⟨a, f, hq, hst, hf⟩ hLU => ?_⟩
    refine ⟨q, _, rfl, SqT.of hq, rfl, _, _, rfl, _, _, rfl, rfl, ?_⟩
    refine ⟨_, rfl, _, rfl, _, rfl, four, fun t nt => ⟨two, fun u nu => ?_⟩⟩
    have s2 := same_new (o := .tup [.str "abort", .ref m, .non, .ref f]) (Same.refl H1) nt
    have s3 := same_new (o := .tup [.ref a, .ref t]) s2 nu
    exact kk _ u (s1.trans s3) ⟨a, t, upd_same, hst.same s3, ⟨m, .non, f, kp nu upd_same, s3 _ _ (s1 _ _ hm), rfl, s3 _ _ hf⟩⟩ hLU
theorem filter_asc {l : List Int} {P : Int → Bool} {M : List Int} (nd : l.Nodup) (p : M.Perm (l.filter P)) (s : M.Pairwise (· ≤ ·)) : asc (l.filter P) = M := asc_eq (perm_asc p s (nd.sublist List.filter_sublist))
theorem bd_of {H : Hp} {U : List Int} {σ : MIR.S} {kvs : List (Key × V)} (hB : ∀ k, PBond U H σ k (valV kvs k)) (t : Int) : (σ.bd t).Nodup ∧ ∀ h ∈ σ.bd t, h ∈ U := by
  have z := hB (.inl t)
  cases e : valV kvs (Sum.inl t) with
  | none => rw [e] at z; rw [show σ.bd t = [] from z]; exact ⟨List.nodup_nil, fun h hh => by cases hh⟩
  | some v => rw [e] at z; obtain ⟨q, _, _, _, h1, h2⟩ := z; exact ⟨h1, h2⟩
noncomputable def comM (σ : MIR.S) (s : Int) (k : Nat) : MIR.S × Out := if waitsOf σ s ≠ [] then (σ, ⟨"wait", [], .tup (asc (waitsOf σ s)), []⟩) else (commS σ s k, ⟨"commit", [], .non, []⟩)
def spCommitted (CB CS CI : Addr) : Sp := fun vs H Q _ => ∃ (b dxb d : Addr) (g : Str → Str) (e : Str) (k : Nat) (p : Addr) (s : Int) (U : List Int) (N : List Str) (σ : MIR.S), vs = [.ref b, .ref p, .int s] ∧ Bk CB H b dxb d g e (k : Int) ∧ 1 ≤ k ∧ k ≤ 20 ∧ StAt CS CI U N H p σ ∧ s ∈ U ∧ U.length ≤ 400 ∧ N.length ≤ 400 ∧
  ∀ (H' : Hp) (q : Addr), Same H H' → PairAt CS CI U N H' q (comM σ s k) → Q (.ref q) H'
theorem ok_committed : FnOk PP w K mg base CX0 5 T.f_committed T.d_committed ["book", "state", "stamp"] (spCommitted T.c_Book T.c_State T.c_Item) := by
  refine T.F_committed.ok sc_committed (fun vs H Q E h => ?_) (fun cdv A outer s H vs Q E hr h => ?_)
  · obtain ⟨b, dxb, d, g, e, k, p, s, U, N, σ, rfl, _⟩ := h
    rfl
  · obtain ⟨b, dxb, d, g, e, k, p, s, U, N, σ, rfl, B, k1, k20, st, hs, hU, hN, kk⟩ := h
    refine ⟨_, C8.pss_cut (ps_set (i := 3) sc_committed.nd rfl (.inl rfl) (pe_dget2 (hu_of hr) (pe_fld (pv 1) rfl) (pv 2) (pe_tup pa_nil) (by constructor <;> rfl)))
 (pss_cons (ps_set (i := 5) sc_committed.nd rfl (.inl rfl) (pe_call (ok_ascending T) (hr.mono (by decide)) (by rfl) T.g_ascending T.F_ascending.kp (b_ascending T) .nil pass0 (pa_cons (pe_lc (own := [("holder", 4)]) (g := gName 4) (tt := tB (tDNotIn (tVar 4) (tFld K (tVar 1) "over"))) (by rfl) sc_committed.nd (pi_tup (pv 3)) (blkOk_by (N := ["book", "state", "stamp", "bound", "holder", "holders", "over", "name", "item", "store"]) (sc := defScope s_committed) (by decide +kernel)) (fun _ _ _ _ _ => pg_name (i := 4) sc_committed.nd rfl (Or.inl rfl)) (fun _ _ _ _ _ => pts_one (pt_cmp (pc_dnotin (hu_of hr) (pv 4) (pe_fld (pv 1) rfl)))) (fun _ _ _ _ _ => (pv 4))) pa_nil)))
 (pss_cons (ps_if (pt_truth (pv 5) (by intro _; rfl))
 (pss_one (ps_ret (pe_tup (pa_cons (pv 1) (pa_cons (pe_tup (pa_cons pe_str (pa_cons (pe_tup pa_nil) (pa_cons (pv 5) (pa_cons (pe_tup pa_nil) pa_nil))))) pa_nil)))))
 pss_nil)
 (pss_cons (ps_set (i := 6) sc_committed.nd rfl (.inl rfl) (pe_callTy call_dictD (by rfl) T.n_dict (by decide +kernel) (pa_cons (pe_fld (pv 1) rfl) pa_nil)))
 (pss_cons (ps_dput (hu_of hr) (pv 6) (pv 2) pe_str rfl)
 (C8.pss_cut (ps_lock (DCS.ps_setDc (i := 9) (own := [("name", 7), ("item", 8)]) (g := (gTup K 2 (gCons (gName 7) (gCons (gName 8) gNil)))) (tt := tYes) rfl sc_committed.nd rfl rfl (DCS.sw_dict rfl rfl rfl (by decide +kernel)) (pi_items (pe_fld (pv 1) rfl)) (blkOk_by (N := ["book", "state", "stamp", "bound", "holder", "holders", "over", "name", "item", "store"]) (sc := defScope s_committed) (by decide +kernel)) (fun _ _ _ _ _ => pg_tup rfl (pgs_cons (pg_name (i := 7) sc_committed.nd rfl (.inl rfl)) (pgs_cons (pg_name (i := 8) sc_committed.nd rfl (.inl rfl)) pgs_nil))) (fun _ _ _ _ _ => pts_nil) (fun _ _ _ _ _ => (pv 7)) (fun _ _ _ _ _ => (pe_call (ok_settled T) (hr.mono (by decide)) (by rfl) T.g_settled T.F_settled.kp (b_settled T) .nil pass0 (pa_cons (pv 8) (pa_cons (pv 2) (pa_cons (pe_prop (pv 0) T.cl_Book T.p_Book_keep (ok_keep T) (hr.mono (by decide)) (b_Book_keep T) .nil pass0 rfl) pa_nil)))))))
 (pss_one (ps_ret (pe_tup (pa_cons (pe_make T.mk_State (ok_State_init T) (hr.mono (by decide)) (by rfl) T.g_State (b_State_init T) .nil pass0 (pa_cons (pv 9) (pa_cons (pv 6) (pa_cons (pe_fld (pv 1) rfl) pa_nil)))) (pa_cons (pe_tup (pa_cons pe_str (pa_cons (pe_tup pa_nil) (pa_cons pe_non (pa_cons (pe_tup pa_nil) pa_nil))))) pa_nil)))))))))), ?_⟩
    obtain ⟨dx, ds, dv, db, hp, n1, n2, n3, D1, D2, D3⟩ := st.ex
    obtain ⟨sv, hsv, snd, hSt⟩ := D1.ex
    obtain ⟨ov, hov, ond, hO⟩ := D2.ex
    obtain ⟨bv, hbv, bnd, hB⟩ := D3.ex
    obtain ⟨bdnd, bdU⟩ := bd_of hB s
    have zero : 0 ≤ sizeLine := by decide
    have two : 2 ≤ sizeLine := by decide
    have four : 4 ≤ sizeLine := by decide
    refine ⟨fun τ H' => ∃ q, τ = [some (.ref b), some (.ref p), some (.int s), some (.ref q), none, none, none, none, none, none] ∧ H' q = some (.tup ((σ.bd s).map V.int)) ∧ Same H H', ?_, ?_⟩
    · refine ⟨_, rfl, p, T.c_State, dx, _, _, rfl, hp, T.cl_State, T.na_State_bonds, rfl, db, rfl, .inl ⟨bv, .inl hbv⟩, _, rfl, zero, fun t nt => ?_⟩
      have gg := DGet.k (k := Sum.inl s) (kp (o' := .tup []) nt hbv)
      have z := hB (.inl s)
      refine ⟨_, gg, ?_⟩
      cases e0 : valV bv (Sum.inl s) with
      | none =>
        rw [e0] at z
        exact ⟨t, rfl, by rw [show σ.bd s = [] from z]; exact upd_same, same_new (Same.refl H) nt⟩
      | some v =>
        rw [e0] at z
        obtain ⟨q, rfl, _, hq, _⟩ := z
        exact ⟨q, rfl, kp nt hq, same_new (Same.refl H) nt⟩
    rintro τ H1 ⟨q, rfl, hq, s1⟩
    have hp1 := s1 _ _ hp
    have hov1 := s1 _ _ hov
    refine ⟨_, rfl, q, rfl, ⟨_, SqT.of hq⟩, fun D nD => lc_tup (xs := (σ.bd s).map V.int) (fun i H' => H' D = some (.lst ((((σ.bd s).take i).filter fun t => (σ.ov t).isNone).map V.int)) ∧ Same H1 H')
      ⟨upd_same, same_new (Same.refl H1) nD⟩ (fun i H' _ h => SqT.of (h.2 _ _ hq)) ?_ ?_⟩
    · rintro i x H2 hx ⟨hD, s2⟩
      obtain ⟨t, ht, rfl⟩ := ints_at' hx
      have gg := DGet.k (k := Sum.inl t) (s2 _ _ hov1)
      have z := hO (.inl t)
      have et : (σ.bd s).take (i + 1) = (σ.bd s).take i ++ [t] := by rw [List.take_add_one, ht]; rfl
      refine ⟨rfl, _, rfl, _, rfl, p, T.c_State, dx, _, _, rfl, s2 _ _ hp1, T.cl_State, T.na_State_over, rfl, dv, _, rfl, gg, _, rfl, ?_⟩
      cases e0 : valV ov (Sum.inl t) with
      | none =>
        rw [e0] at z
        refine iteT ⟨_, rfl, _, hD, small1000 ?_, ?_, fun b o z => ?_⟩
        · rw [List.length_map]
          have h1 := List.length_filter_le (fun t => (σ.ov t).isNone) ((σ.bd s).take i)
          have h2 := List.length_take_le i (σ.bd s)
          have h3 := nd_le bdnd bdU
          have h4 : ((σ.bd s).take i).length ≤ (σ.bd s).length := by rw [List.length_take]; omega
          omega
        · rw [upd_same, et, List.filter_append]
          have : ([t].filter fun t => (σ.ov t).isNone) = [t] := by simp [List.filter, show σ.ov t = none from z]
          rw [this, List.map_append]; rfl
        · rw [upd_ne (ne_of_none z nD)]; exact s2 b o z
      | some v =>
        rw [e0] at z
        obtain ⟨b', _, _, eb⟩ := z
        refine iteF ⟨?_, s2⟩
        rw [et, List.filter_append]
        have : ([t].filter fun t => (σ.ov t).isNone) = [] := by simp [List.filter, eb]
        rw [this, List.append_nil]; exact hD
    rintro H2 ⟨hD, s2⟩
    rw [List.length_map, List.take_length] at hD
    have hwl : (waitsOf σ s).length ≤ 400 := by
      have h1 := List.length_filter_le (fun t => (σ.ov t).isNone) (σ.bd s)
      have h3 := nd_le bdnd bdU
      show ((σ.bd s).filter _).length ≤ 400
      omega
    refine ⟨D, waitsOf σ s, rfl, SqL.of hD, by omega, fun H3 h M s3 nh pm ps hh => ?_⟩
    have eM : asc (waitsOf σ s) = M := filter_asc bdnd pm ps
    have s13 := (s1.trans s2).trans s3
    have hp3 := s13 _ _ hp
    refine ⟨_, rfl, !(M.map V.int).isEmpty, .inr (.inl ⟨_, SqT.of hh, rfl⟩), ?_⟩
    by_cases hw : waitsOf σ s = []
    · have hM : M = [] := by rw [hw] at pm; exact pm.eq_nil
      have em : comM σ s k = (commS σ s k, ⟨"commit", [], .non, []⟩) := if_neg fun z => z hw
      rw [em] at kk
      rw [hM]
      refine iteF ?_
      refine ⟨_, rfl, p, T.c_State, dx, _, _, rfl, hp3, T.cl_State, T.na_State_over, rfl, dv, ov, rfl, .inl (s13 _ _ hov), fun O nO => ?_⟩
      have s4 := same_new (o := .dK ov) s13 nO
      have pu : ((putK ov (Sum.inl s) (.str "committed")).map (·.1)).Nodup ∧ ∀ x, POver U (commS σ s k) x (valV (putK ov (Sum.inl s) (.str "committed")) x) := over_put (σ' := commS σ s k) (b := true) ond hO hs (by exact if_pos rfl) fun x nx => if_neg nx
      have hsv4 := s4 _ _ hsv
      refine ⟨_, rfl, _, rfl, O, _, rfl, DPut.k (k := Sum.inl s) upd_same (small1000 (by have := len_over ond hO; omega)), ?_⟩
      have hO5 : (upd (upd H3 O (.dK ov)) O (.dK (putK ov (Sum.inl s) (.str "committed")))) O = some (.dK (putK ov (Sum.inl s) (.str "committed"))) := upd_same
      have s5 : Same H (upd (upd H3 O (.dK ov)) O (.dK (putK ov (Sum.inl s) (.str "committed")))) := fun x o z => by
        have : x ≠ O := ne_of_none (s13 _ _ z) nO
        rw [upd_ne this]; exact s4 x o z
      have fO : H O = none := s13.free nO
      generalize (upd (upd H3 O (.dK ov)) O (.dK (putK ov (Sum.inl s) (.str "committed")))) = H5 at hO5 s5 ⊢
      have dds : d ≠ ds := fun z => by
        have e1 := B.tbl
        rw [z, hsv] at e1
        have e2 : sv = tabS ENT g := by cases e1; rfl
        have e3 := hSt (Sum.inr "read late")
        rw [e2, val_in (g := V.str) (by decide)] at e3
        obtain ⟨_, e4, _⟩ := e3
        cases e4
      have bds : b ≠ ds := fun z => by have := B.ins; rw [z, hsv] at this; cases this
      have hsv5 := s5 _ _ hsv
      have hp5 := s5 _ _ hp
      have hbv5 := s5 _ _ hbv
      have Ods : O ≠ ds := fun z => by rw [z, hsv] at fO; cases fO
      have Odb : O ≠ db := fun z => by rw [z, hbv] at fO; cases fO
      have pds : p ≠ ds := fun z => by rw [z, hsv] at hp; cases hp
      refine ⟨fun τ H' => ∃ (D : Addr) (nkv : List (Key × V)), τ = [some (.ref b), some (.ref p), some (.int s), some (.ref q), none, some (.ref h), some (.ref O), none, none, some (.ref D)] ∧ H' D = some (.dK nkv) ∧ Same H5 H' ∧ H5 D = none ∧ (nkv.map (·.1)).Nodup ∧ ∀ x, PStore T.c_Item U N H' (commS σ s k) x (valV nkv x), ?_, ?_⟩
      · refine ⟨ds, .dK sv, hsv5, trivial, fun od => ?_⟩
        have hpL : (upd H5 ds (.frz od (.dK sv))) p = _ := (upd_ne pds).trans hp5
        refine ⟨_, rfl, p, T.c_State, dx, _, _, rfl, hpL, T.cl_State, T.na_State_store, rfl, ds, od, sv, rfl, upd_same, fun D nD => ?_⟩
        have l0 : LockS ds od (.dK sv) H5 (upd H5 ds (.frz od (.dK sv))) := LockS.start
        have nD5 : H5 D = none := l0.free nD hsv5
        have Dds : D ≠ ds := fun z => by rw [z, hsv5] at nD5; cases nD5
        have t3 : ∀ {H'}, LockS ds od (.dK sv) H5 H' → SameT H H' := fun {H'} l x o st z => l.but x o (fun q => by rw [q, hsv] at z; cases z; exact st) (s5 x o z)
        refine dc_it walk_items (fun i H' => ∃ nkv : List (Key × V), H' D = some (.dK nkv) ∧ LockS ds od (.dK sv) H5 H' ∧ Made sv nkv i (RSt T.c_Item U N H' fun n => setI s k (σ.it n)))
          ⟨[], upd_same, l0.new nD, Made.nil⟩ (fun i H' _ ⟨_, _, l, _⟩ => l.at_) ?_ ?_
        · rintro i x H6 H7 hi ⟨nkv, hD, l4, md⟩ ⟨T', x1, x2, rfl, nT, rfl, e1, e2⟩
          have e1 : sv[i]?.map (fun kv => kV kv.1) = some x1 := e1
          have e2 : sv[i]?.map Prod.snd = some x2 := e2
          cases hq : sv[i]? with
          | none => rw [hq] at e1; cases e1
          | some kv =>
          obtain ⟨kk', v⟩ := kv
          rw [hq] at e1 e2
          cases e1
          cases e2
          have hb := hSt kk'
          rw [val_at snd hq] at hb
          cases kk' with
          | inl _ => cases hb
          | inr n =>
          obtain ⟨q', rfl, nN, hI, wf⟩ := hb
          have l5 := l4.new (o := .tup [kV (Sum.inr n), .ref q']) nT
          have hD5 := kp (o' := .tup [kV (Sum.inr n), .ref q']) nT hD
          have t45 : SameT H6 (upd H6 T' (.tup [kV (Sum.inr n), .ref q'])) := SameT.new nT
          have hT5 : (upd H6 T' (.tup [kV (Sum.inr n), .ref q'])) T' = some (.tup [kV (Sum.inr n), .ref q']) := upd_same
          generalize upd H6 T' (.tup [kV (Sum.inr n), .ref q']) = H7 at l5 hD5 hT5 t45
          have B7 : Bk T.c_Book H7 b dxb d g e (k : Int) := ⟨l5.but _ _ bds (s5 _ _ B.ins), l5.but _ _ dds (s5 _ _ B.tbl)⟩
          refine ⟨T', _, rfl, SqT.of hT5, rfl, _, _, rfl, _, _, rfl, rfl, rfl, ?_⟩
          refine ⟨_, rfl, _, rfl, _, rfl, _, rfl, b, dxb, _, rfl, B7.ins, b, dxb, d, g, e, (k : Int), rfl, B7, ?_⟩
          refine ⟨q', σ.it n, s, k, rfl, hI.sameT (t3 l5), wf.le, k1, fun H8 q2 sm hI6 => ?_⟩
          have hD6 := sm _ _ hD5
          refine ⟨_, Sum.inr n, rfl, hD6, small1000 (by have := md.len; have := len_store snd hSt; omega), putK nkv (Sum.inr n) (.ref q2), upd_same, (l5.same sm).put nD5 Dds, ?_⟩
          have t6 : SameT H8 (upd H8 D (.dK (putK nkv (Sum.inr n) (.ref q2)))) := SameT.chg hD6 (fun z => z)
          exact ((md.mono (RSt.sameT ((t45.trans (SameT.of sm))))).step snd hq ⟨n, q2, rfl, rfl, nN, hI6, wf.set k1 k20⟩).mono (RSt.sameT t6)
        · rintro H6 ⟨nkv, hD, l4, md⟩
          refine ⟨l4.at_, ?_⟩
          have tu : SameT H6 (upd H6 ds (.dK sv)) := SameT.chg l4.at_ (fun z => z)
          have sm := store_map (g := setI s k) (σ' := commS σ s k) setI0 snd hSt (md.mono (RSt.sameT tu)) (fun _ => rfl)
          exact ⟨D, nkv, rfl, by rw [upd_ne Dds]; exact hD, l4.unlock hsv5, nD5, sm.1, sm.2⟩
      rintro τ H6 ⟨D, nkv, rfl, hD4, s6, nD, nnd, hN4⟩
      refine ⟨_, rfl, _, rfl, _, rfl, p, T.c_State, dx, _, _, rfl, s6 _ _ hp5, T.cl_State, T.na_State_bonds, rfl, fun x dx' nx ndx ne => mk_state nx ndx fun H7 s7 hx => ⟨rfl, zero, fun u nu => ⟨zero, fun v nv => ⟨four, fun o no => ⟨two, fun r nr => ?_⟩⟩⟩⟩⟩
      have t1 := same_new (o := .tup []) (Same.refl H7) nu
      have t2 := same_new (o := .tup []) t1 nv
      have t3 := same_new (o := .tup [.str "commit", .ref u, .non, .ref v]) t2 no
      have t4 := same_new (o := .tup [.ref x, .ref o]) t3 nr
      have s57 := (s6.trans s7).trans t4
      have s07 := s5.trans s57
      refine kk _ r s07 ⟨x, o, upd_same, ⟨dx', D, O, db, t4 _ _ hx, ?_, ?_, Odb, ⟨nkv, (s7.trans t4) _ _ hD4, nnd, store_congr hN4 (SameT.of (s7.trans t4)) fun _ => rfl⟩, ⟨_, s57 _ _ hO5, pu.1, pu.2⟩, ⟨bv, s57 _ _ hbv5, bnd, bond_congr hB s07 fun _ => rfl⟩⟩, ⟨u, .non, v, kp nr upd_same, kp nr (kp no (kp nv upd_same)), rfl, kp nr (kp no upd_same)⟩⟩
      · exact fun z => by rw [z, hO5] at nD; cases nD
      · exact fun z => by rw [z, hbv5] at nD; cases nD
    · have em : comM σ s k = (σ, ⟨"wait", [], .tup (asc (waitsOf σ s)), []⟩) := if_pos hw
      rw [em, eM] at kk
      have hM : M ≠ [] := by
        intro z; rw [z] at pm; exact hw pm.symm.eq_nil
      obtain ⟨y, ys, ey⟩ : ∃ y ys, M = y :: ys := by cases M with | nil => exact absurd rfl hM | cons y ys => exact ⟨y, ys, rfl⟩
      have eb : (!(M.map V.int).isEmpty) = true := by rw [ey]; rfl
      rw [eb]
      refine iteT ⟨_, rfl, zero, fun u nu => ⟨_, rfl, zero, fun v nv => ⟨four, fun o no => ⟨two, fun r nr => ?_⟩⟩⟩⟩
      have t1 := same_new (o := .tup []) (Same.refl H3) nu
      have t2 := same_new (o := .tup []) t1 nv
      have t3 := same_new (o := .tup [.str "wait", .ref u, .ref h, .ref v]) t2 no
      have t4 := same_new (o := .tup [.ref p, .ref o]) t3 nr
      exact kk _ r (s13.trans t4) ⟨p, o, upd_same, st.same (s13.trans t4), ⟨u, .ref h, v, kp nr upd_same, kp nr (kp no (kp nv upd_same)), ⟨h, rfl, t4 _ _ hh⟩, kp nr (kp no upd_same)⟩⟩
end
end K11

namespace K11
open PySem L2 SI CM BK OWN
section
variable {w : World} {K : PySem.W.Frag} {mg : Str → Option Value} {base : Heap} (T : Txt w K mg)
abbrev KINDS : List Str := ["read", "write"]
abbrev SPOTS : List Str := ["free", "own", "late", "under", "below", "above"]
/-- the entry that is met -/
def entM (k sp : Str) (p : Bool) : Option Str := if k = "write" ∧ p = true then some (Str.empty ++ "write " ++ sp ++ " passed") else if sp ∈ (["free", "own"] : List Str) then none else some (Str.empty ++ k ++ " " ++ sp)
def fixM (k sp : Str) : Str := if k = "write" then "put" else if sp = "free" then "last" else "open"
theorem ent_in : ∀ k ∈ KINDS, ∀ sp ∈ SPOTS, ∀ p : Bool, ∀ e, entM k sp p = some e → e ∈ ENT := by
  have h : ∀ k ∈ KINDS, ∀ sp ∈ SPOTS, ∀ p ∈ [true, false], ((entM k sp p).all fun e => decide (e ∈ ENT)) = true := by decide +kernel
  intro k hk sp hs p e he
  have := h k hk sp hs p (by cases p <;> simp)
  rw [he] at this
  exact of_decide_eq_true this
theorem lens : ∀ k ∈ KINDS, ∀ sp ∈ SPOTS, (Str.empty ++ "write ").length ≤ 30 ∧ (Str.empty ++ "write " ++ sp).length ≤ 30 ∧ (Str.empty ++ "write " ++ sp ++ " passed").length ≤ 30 ∧ (Str.empty ++ k).length ≤ 30 ∧ (Str.empty ++ k ++ " ").length ≤ 30 ∧ (Str.empty ++ k ++ " " ++ sp).length ≤ 30 := by decide +kernel
theorem sp_len : ∀ sp ∈ SPOTS, sp.length ≤ 30 := by decide +kernel
theorem k_len : ∀ sp ∈ KINDS, sp.length ≤ 30 := by decide +kernel
theorem ds (a b : Str) : decide (V.str a = V.str b) = decide (a = b) := decide_eq_decide.mpr ⟨V.str.inj, congrArg _⟩
def oV : Option Str → V
  | none => .non
  | some e => .str e
def spEM : Sp := fun vs H Q _ => ∃ k sp p, vs = [.str k, .str sp, .bl p] ∧ k ∈ KINDS ∧ sp ∈ SPOTS ∧ ∀ H', Same H H' → Q (oV (entM k sp p)) H'
theorem ok_entry_met : FnOk PP w K mg base CX0 1 T.f_entry_met T.d_entry_met ["kind", "spot", "passed"] spEM := by
  refine T.F_entry_met.ok sc_entry_met (fun vs H Q E h => ?_) (fun cdv A outer s H vs Q E hr h => ?_)
  · obtain ⟨k, sp, p, rfl, _⟩ := h
    rfl
  · obtain ⟨kd, sp, p, rfl, hk, hs, k⟩ := h
    refine ⟨_, pss_cons (ps_if (PW.pt (pw_and (pt_cmpR op_eq (pv 0) pe_str (nomark _)) (pw_and1 (pt_val (pv 2)))))
 (pss_one (ps_ret (pe_joined (.cons pe_str (.cons (pe_fmt (pv 1)) (.cons pe_str .nil))))))
 pss_nil)
 (pss_cons (ps_if (pt_cmpR op_in_seq (pv 1) (pe_tup (pa_cons pe_str (pa_cons pe_str pa_nil))) rfl)
 (pss_one (ps_ret pe_non))
 pss_nil)
 (pss_one (ps_ret (pe_joined (.cons (pe_fmt (pv 0)) (.cons pe_str (.cons (pe_fmt (pv 1)) .nil))))))), ?_⟩
    have two : 2 ≤ sizeLine := by decide
    have big : ∀ n : Nat, n ≤ 30 → n ≤ sizeLine := fun n h => Nat.le_of_lt (small1000 (by omega))
    obtain ⟨l1, l2, l3, l4, l5, l6⟩ := lens kd hk sp hs
    have lsp := sp_len sp hs
    have lk := k_len kd hk
    refine ⟨_, rfl, rfl, _, rfl, ?_⟩
    rw [ds]
    by_cases hw : kd = "write"
    · subst hw
      refine iteT ⟨_, rfl, _, rfl, ?_⟩
      cases p with
      | true =>
        have k := k H (Same.refl H)
        rw [show entM "write" sp true = some (Str.empty ++ "write " ++ sp ++ " passed") from if_pos ⟨rfl, rfl⟩] at k
        exact iteT ⟨_, rfl, big _ l1, _, rfl, .inl ⟨_, rfl, big _ lsp, _, rfl, big _ l2, _, rfl, big _ l3, k⟩⟩
      | false =>
        have hE : entM "write" sp false = if sp ∈ (["free", "own"] : List Str) then none else some (Str.empty ++ "write" ++ " " ++ sp) := if_neg (fun z => by cases z.2)
        refine iteF ?_
        refine ⟨_, rfl, two, fun t nt => ?_⟩
        refine ⟨t, (["free", "own"] : List Str).map V.str, rfl, .inr (SqT.of upd_same), rfl, flat_strs _, _, rfl, ?_⟩
        have sm := same_new (o := .tup ((["free", "own"] : List Str).map V.str)) (Same.refl H) nt
        rw [inV_str]
        have k := k _ sm
        by_cases hf : sp ∈ (["free", "own"] : List Str)
        · rw [hE, if_pos hf] at k
          rw [decide_eq_true hf]
          exact iteT k
        · rw [hE, if_neg hf] at k
          rw [decide_eq_false hf]
          exact iteF ⟨_, rfl, .inl ⟨_, rfl, big _ lk, _, rfl, big _ l4, _, rfl, big _ l5, _, rfl, .inl ⟨_, rfl, big _ lsp, _, rfl, big _ l6, k⟩⟩⟩
    · rw [decide_eq_false hw]
      have hE : entM kd sp p = if sp ∈ (["free", "own"] : List Str) then none else some (Str.empty ++ kd ++ " " ++ sp) := if_neg (fun z => hw z.1)
      refine iteF (iteF ?_)
      refine ⟨_, rfl, two, fun t nt => ?_⟩
      refine ⟨t, (["free", "own"] : List Str).map V.str, rfl, .inr (SqT.of upd_same), rfl, flat_strs _, _, rfl, ?_⟩
      have sm := same_new (o := .tup ((["free", "own"] : List Str).map V.str)) (Same.refl H) nt
      rw [inV_str]
      have k := k _ sm
      by_cases hf : sp ∈ (["free", "own"] : List Str)
      · rw [hE, if_pos hf] at k
        rw [decide_eq_true hf]
        exact iteT k
      · rw [hE, if_neg hf] at k
        rw [decide_eq_false hf]
        exact iteF ⟨_, rfl, .inl ⟨_, rfl, big _ lk, _, rfl, big _ l4, _, rfl, big _ l5, _, rfl, .inl ⟨_, rfl, big _ lsp, _, rfl, big _ l6, k⟩⟩⟩
def spFix : Sp := fun vs H Q _ => ∃ k sp, vs = [.str k, .str sp] ∧ Q (.str (fixM k sp)) H
theorem ok_fixed : FnOk PP w K mg base CX0 1 T.f_fixed_answer T.d_fixed_answer ["kind", "spot"] spFix := by
  refine T.F_fixed_answer.ok sc_fixed_answer (fun vs H Q E h => ?_) (fun cdv A outer s H vs Q E hr h => ?_)
  · obtain ⟨k, sp, rfl, _⟩ := h
    rfl
  · obtain ⟨kd, sp, rfl, k⟩ := h
    refine ⟨_, pss_cons (ps_if (pt_cmpR op_eq (pv 0) pe_str (nomark _))
 (pss_one (ps_ret pe_str))
 pss_nil)
 (pss_one (ps_ret (pe_ifExp (pt_cmpR op_eq (pv 1) pe_str (nomark _)) pe_str pe_str))), ?_⟩
    unfold fixM at k
    refine ⟨_, rfl, rfl, _, rfl, ?_⟩
    rw [ds]
    by_cases h : kd = "write"
    · rw [if_pos h] at k
      rw [decide_eq_true h]
      exact iteT k
    · rw [if_neg h] at k
      rw [decide_eq_false h]
      refine iteF ⟨_, rfl, rfl, _, rfl, ?_⟩
      rw [ds]
      by_cases h2 : sp = "free"
      · rw [if_pos h2] at k
        rw [decide_eq_true h2]
        exact iteT k
      · rw [if_neg h2] at k
        rw [decide_eq_false h2]
        exact iteF k
end
end K11

namespace K11
open PySem L2 SI CM BK OWN MIR StX TX TL
section
variable {w : World} {K : PySem.W.Frag} {mg : Str → Option Value} {base : Heap} (T : Txt w K mg)
def hVo : Option Int → V
  | none => .non
  | some h => .int h
theorem hV_o (i : MIR.It) : hV i = hVo (hOf i) := by
  unfold hV hOf
  split <;> (rename_i e; rw [e]; rfl)
def spPlaceI : Sp := fun vs H Q _ => ∃ (s x : Int) (h : Option Int), vs = [.int s, .int x, hVo h] ∧ Q (.str (placeM s x h)) H
theorem ok_place : FnOk PP w K mg base CX0 1 T.f_place T.d_place ["asker", "last", "holder"] spPlaceI := by
  refine T.F_place.ok sc_place (fun vs H Q E h => ?_) (fun cdv A outer s H vs Q E hr h => ?_)
  · obtain ⟨s, x, h, rfl, _⟩ := h
    rfl
  · obtain ⟨s, x, h, rfl, k⟩ := h
    refine ⟨_, pss_cons (ps_if (pt_cmpR op_isN (pv 2) pe_non (nomark _))
 (pss_one (ps_ret (pe_ifExp (pt_cmpR op_lt (pv 1) (pv 0) (nomark _)) pe_str pe_str)))
 pss_nil)
 (pss_cons (ps_if (pt_cmpR op_eq (pv 2) (pv 0) (nomark _))
 (pss_one (ps_ret pe_str))
 pss_nil)
 (pss_cons (ps_if (pt_cmpR op_lt (pv 0) (pv 1) (nomark _))
 (pss_one (ps_ret pe_str))
 pss_nil)
 (pss_one (ps_ret (pe_ifExp (pt_cmpR op_lt (pv 0) (pv 2) (nomark _)) pe_str pe_str))))), ?_⟩
    refine ⟨_, rfl, rfl, _, rfl, ?_⟩
    cases h with
    | none =>
      rw [show decide (hVo none = .non) = true from rfl]
      refine iteT ⟨_, rfl, _, rfl, _, _, rfl, rfl, _, rfl, ?_⟩
      refine ite2 (fun c => ?_) (fun c => ?_)
      · rw [show placeM s x none = "free" from if_pos (of_decide_eq_true c)] at k; exact k
      · rw [show placeM s x none = "late" from if_neg (of_decide_eq_false (by cases q : decide (x < s) with | true => exact absurd q c | false => rfl))] at k; exact k
    | some h =>
      rw [show decide (hVo (some h) = .non) = false from rfl]
      refine iteF ⟨_, rfl, _, rfl, rfl, _, rfl, ?_⟩
      by_cases e1 : h = s
      · rw [show decide (hVo (some h) = V.int s) = true from decide_eq_true (congrArg V.int e1)]
        rw [show placeM s x (some h) = "own" from if_pos e1] at k
        exact iteT k
      · rw [show decide (hVo (some h) = V.int s) = false from decide_eq_false (fun z => e1 (V.int.inj z))]
        refine iteF ⟨_, rfl, _, rfl, _, _, rfl, rfl, _, rfl, ?_⟩
        by_cases e2 : s < x
        · rw [decide_eq_true e2]
          rw [show placeM s x (some h) = "under" from (if_neg e1).trans (if_pos e2)] at k
          exact iteT k
        · rw [decide_eq_false e2]
          refine iteF ⟨_, rfl, _, rfl, _, _, rfl, rfl, _, rfl, ?_⟩
          by_cases e3 : s < h
          · rw [decide_eq_true e3]
            rw [show placeM s x (some h) = "below" from (if_neg e1).trans ((if_neg e2).trans (if_pos e3))] at k
            exact iteT k
          · rw [decide_eq_false e3]
            rw [show placeM s x (some h) = "above" from (if_neg e1).trans ((if_neg e2).trans (if_neg e3))] at k
            exact iteF k
def spOlder (CI : Addr) : Sp := fun vs H Q _ => ∃ (p : Addr) (i : MIR.It) (s : Int), vs = [.ref p, .int s] ∧ ItAt CI H p i ∧ i.kept.length ≤ 20 ∧ ∀ (H' : Hp) (q : Addr), Same H H' → H q = none → H' q = some (.lst ((oldM i s).map V.int)) → Q (.ref q) H'
theorem old_take {i : MIR.It} {s : Int} : oldM i s = (i.kept.filter fun p => decide (p.1 < s)).map (·.2) := rfl
theorem ok_older_values : FnOk PP w K mg base CX0 1 T.f_older_values T.d_older_values ["item", "stamp"] (spOlder T.c_Item) := by
  refine T.F_older_values.ok sc_older_values (fun vs H Q E h => ?_) (fun cdv A outer s H vs Q E hr h => ?_)
  · obtain ⟨p, i, s, rfl, _⟩ := h
    rfl
  · obtain ⟨p, i, s, rfl, hi, h20, kk⟩ := h
    refine ⟨_, pss_one (ps_ret (pe_lc (own := [("writer", 2), ("value", 3)]) (g := (gTup K 2 (gCons (gName 2) (gCons (gName 3) gNil)))) (tt := tTest (tOp (rI0 fun i j => .bl (decide (i < j))) (tVar 2) (tVar 1))) (by rfl) sc_older_values.nd (pi_tup (pe_fld (pv 0) rfl)) (blkOk_by (N := ["item", "stamp", "writer", "value"]) (sc := defScope s_older_values) (by decide +kernel)) (fun _ _ _ _ _ => pg_tup rfl (pgs_cons (pg_name (i := 2) sc_older_values.nd rfl (.inl rfl)) (pgs_cons (pg_name (i := 3) sc_older_values.nd rfl (.inl rfl)) pgs_nil))) (fun _ _ _ _ _ => pts_one (pt_cmpR op_lt (pv 2) (pv 1) (nomark _))) (fun _ _ _ _ _ => (pv 3)))), ?_⟩
    obtain ⟨dx, ka, hp, ps, hka, hps⟩ := hi
    refine ⟨_, rfl, p, T.c_Item, dx, _, _, rfl, hp, T.cl_Item, T.na_Item_kept, rfl, ka, rfl, ⟨_, SqT.of hka⟩, fun D nD => lc_tup (xs := ps.map V.ref) (fun j H' => H' D = some (.lst ((((i.kept.take j).filter fun p => decide (p.1 < s)).map (·.2)).map V.int)) ∧ Same H H')
      ⟨upd_same, same_new (Same.refl H) nD⟩ (fun j H' _ h => SqT.of (h.2 _ _ hka)) ?_ ?_⟩
    · rintro j x H1 hx ⟨hD, s1⟩
      rw [List.getElem?_map] at hx
      cases hq : ps[j]? with
      | none => rw [hq] at hx; cases hx
      | some y =>
      rw [hq] at hx
      cases hx
      obtain ⟨v, hv, hy⟩ := hps.at hq
      have et : i.kept.take (j + 1) = i.kept.take j ++ [v] := by rw [List.take_add_one, hv]; rfl
      have hl : (((i.kept.take j).filter fun p => decide (p.1 < s)).map (·.2)).length < 1000 := by
        rw [List.length_map]
        have h1 := List.length_filter_le (fun p : Int × Int => decide (p.1 < s)) (i.kept.take j)
        rw [List.length_take] at h1
        omega
      refine ⟨y, _, rfl, SqT.of (s1 _ _ hy), rfl, _, _, rfl, _, _, rfl, rfl, rfl, ?_⟩
      refine ⟨_, rfl, _, rfl, _, _, rfl, rfl, _, rfl, ?_⟩
      by_cases c : v.1 < s
      · rw [decide_eq_true c]
        refine iteT ⟨_, rfl, _, hD, small1000 (by rw [List.length_map]; exact Nat.le_of_lt hl), ?_, fun b o z => ?_⟩
        · rw [upd_same, et, List.filter_append]
          have : ([v].filter fun p : Int × Int => decide (p.1 < s)) = [v] := by simp [List.filter, c]
          rw [this, List.map_append, List.map_append]; rfl
        · rw [upd_ne (ne_of_none z nD)]; exact s1 b o z
      · rw [decide_eq_false c]
        refine iteF ⟨?_, s1⟩
        rw [et, List.filter_append]
        have : ([v].filter fun p : Int × Int => decide (p.1 < s)) = [] := by simp [List.filter, c]
        rw [this, List.append_nil]; exact hD
    · rintro H1 ⟨hD, s1⟩
      rw [List.length_map, hps.len, List.take_length] at hD
      exact kk H1 D s1 nD hD
end
end K11

/-! Bonds and items put. -/
namespace MIR
open PySem L2 CM BK
theorem F2.last {α β : Type} {R : α → β → Prop} {as : List α} {bs : List β} {d : β} (h : F2 R as bs) (n : bs ≠ []) : ∃ as' a, as = as' ++ [a] ∧ R a (bs.getLastD d) := by
  have hl : 0 < bs.length := by cases bs with | nil => exact absurd rfl n | cons _ _ => exact Nat.zero_lt_succ _
  have hl2 := h.len
  have na : as ≠ [] := by intro z; rw [z] at hl2; simp at hl2; omega
  obtain ⟨as', a, e⟩ : ∃ as' a, as = as' ++ [a] := ⟨as.dropLast, as.getLast na, (List.dropLast_concat_getLast na).symm⟩
  refine ⟨as', a, e, ?_⟩
  have ea : as[as'.length]? = some a := by rw [e]; simp
  obtain ⟨b, hb, r⟩ := h.at ea
  have : as'.length = bs.length - 1 := by rw [← hl2, e, List.length_append]; simp
  rw [this] at hb
  have e2 : bs.getLastD d = b := by
    rw [List.getLastD_eq_getLast?, List.getLast?_eq_getElem?, hb]; rfl
  rw [e2]; exact r
section
variable {H H' : Hp} {C d : Addr} {U : List Int} {N : List Str} {σ σ' : S} {kvs nkv : List (Key × V)} {t : Int} {n : Str} {q : Addr} {L : List Int} {i : It}
theorem bond_put (nd : (kvs.map (·.1)).Nodup) (hP : ∀ k, PBond U H σ k (valV kvs k)) (s : Same H H') (ht : t ∈ U) (hq : H' q = some (.tup (L.map V.int))) (hn : L.Nodup) (hU : ∀ h ∈ L, h ∈ U) (h1 : σ'.bd t = L) (h2 : ∀ x, x ≠ t → σ'.bd x = σ.bd x) :
    ((putK kvs (Sum.inl t) (.ref q)).map (·.1)).Nodup ∧ ∀ k, PBond U H' σ' k (valV (putK kvs (Sum.inl t) (.ref q)) k) := by
  refine ⟨nd_put nd, fun k => ?_⟩
  rw [valV_put]
  by_cases e : k = Sum.inl t
  · rw [if_pos e, e]
    exact ⟨q, rfl, ht, by rw [h1]; exact hq, by rw [h1]; exact hn, by rw [h1]; exact hU⟩
  · rw [if_neg e]
    have z := hP k
    cases k with
    | inr n => exact z
    | inl x =>
      have nx : x ≠ t := fun q => e (by rw [q])
      have e2 := h2 x nx
      cases e3 : valV kvs (Sum.inl x) with
      | none => rw [e3] at z; exact e2.trans z
      | some v =>
        rw [e3] at z
        obtain ⟨q', h3, h4, h5, h6, h7⟩ := z
        exact ⟨q', h3, h4, by rw [e2]; exact s _ _ h5, by rw [e2]; exact h6, by rw [e2]; exact h7⟩
theorem store_put (nd : (kvs.map (·.1)).Nodup) (hP : ∀ k, PStore C U N H σ k (valV kvs k)) (s : SameT H H') (hn : n ∈ N) (hq : ItAt C H' q i) (wf : WfI U i) (h1 : σ'.it n = i) (h2 : ∀ x, x ≠ n → σ'.it x = σ.it x) :
    ((putK kvs (Sum.inr n) (.ref q)).map (·.1)).Nodup ∧ ∀ k, PStore C U N H' σ' k (valV (putK kvs (Sum.inr n) (.ref q)) k) := by
  refine ⟨nd_put nd, fun k => ?_⟩
  rw [valV_put]
  by_cases e : k = Sum.inr n
  · rw [if_pos e, e]
    exact ⟨q, rfl, hn, by rw [h1]; exact hq, by rw [h1]; exact wf⟩
  · rw [if_neg e]
    have z := hP k
    cases k with
    | inl n => exact z
    | inr x =>
      have nx : x ≠ n := fun q => e (by rw [q])
      have e2 := h2 x nx
      cases e3 : valV kvs (Sum.inr x) with
      | none => rw [e3] at z; exact e2.trans z
      | some v =>
        rw [e3] at z
        obtain ⟨q', h3, h4, h5, h6⟩ := z
        exact ⟨q', h3, h4, by rw [e2]; exact h5.sameT s, by rw [e2]; exact h6⟩
end
end MIR

namespace K11
open PySem L2 SI CM BK OWN MIR StX TX TL
section
variable {w : World} {K : PySem.W.Frag} {mg : Str → Option Value} {base : Heap} (T : Txt w K mg)
def spValRead (CI : Addr) : Sp := fun vs H Q _ => ∃ (p : Addr) (i : MIR.It) (s : Int) (a : Str), vs = [.ref p, .int s, .str a] ∧ ItAt CI H p i ∧ i.kept ≠ [] ∧ i.kept.length ≤ 20 ∧ (a = "old" → oldM i s ≠ []) ∧ ∀ (H' : Hp) (v : V), Same H H' → OvAt H' v (valM i s a) → Q v H'
theorem ok_value_read : FnOk PP w K mg base CX0 2 T.f_value_read T.d_value_read ["item", "stamp", "answer"] (spValRead T.c_Item) := by
  refine T.F_value_read.ok sc_value_read (fun vs H Q E h => ?_) (fun cdv A outer s H vs Q E hr h => ?_)
  · obtain ⟨p, i, s, a, rfl, _⟩ := h
    rfl
  · obtain ⟨p, i, s, a, rfl, hi, hne, h20, hold, kk⟩ := h
    refine ⟨_, pss_cons (ps_if (pt_cmpR op_eq (pv 2) pe_str (nomark _))
 (pss_one (ps_ret (pe_fld (pv 0) rfl)))
 pss_nil)
 (pss_cons (ps_if (pt_cmpR op_eq (pv 2) pe_str (nomark _))
 (pss_one (ps_ret (pe_ix ix_list (pe_call (ok_older_values T) (hr.mono (by decide)) (by rfl) T.g_older_values T.F_older_values.kp (b_older_values T) .nil pass0 (pa_cons (pv 0) (pa_cons (pv 1) pa_nil))) (pe_un un_neg pe_int) (fun _ _ => rfl))))
 pss_nil)
 (pss_one (ps_ret (pe_ix ix_tup (pe_ix ix_tup (pe_fld (pv 0) rfl) (pe_un un_neg pe_int) (fun _ _ => rfl)) pe_int (fun _ _ => rfl))))), ?_⟩
    have hi' := hi
    obtain ⟨dx, ka, hp, ps, hka, hps⟩ := hi
    refine ⟨_, rfl, rfl, _, rfl, ?_⟩
    rw [ds]
    by_cases e1 : a = "open"
    · rw [decide_eq_true e1]
      refine iteT ⟨_, rfl, p, T.c_Item, dx, _, _, rfl, hp, T.cl_Item, T.na_Item_value, rfl, kk H _ (Same.refl H) ?_⟩
      unfold valM vV
      rw [if_pos e1]
      cases i.opn with
      | none => rfl
      | some hv => rfl
    · rw [decide_eq_false e1]
      refine iteF ⟨_, rfl, rfl, _, rfl, ?_⟩
      rw [ds]
      by_cases e2 : a = "old"
      · rw [decide_eq_true e2]
        have hn := hold e2
        have hv : valM i s a = .int ((oldM i s).getLastD 0) := (if_neg e1).trans (if_pos e2)
        refine iteT ⟨_, rfl, _, rfl, p, i, s, rfl, hi', h20, fun H1 q s1 nq hq => ⟨_, rfl, q, _, _, .int ((oldM i s).getLastD 0), rfl, rfl, SqL.of hq, ?_, kk H1 _ s1 (by rw [hv]; rfl)⟩⟩
        obtain ⟨l, y, e⟩ : ∃ l y, oldM i s = l ++ [y] := ⟨_, _, (List.dropLast_concat_getLast hn).symm⟩
        rw [e, List.map_append]
        show atI (l.map V.int ++ [V.int y]) (-1) = _
        rw [atI_last]
        simp [List.getLastD_eq_getLast?]
      · rw [decide_eq_false e2]
        have hv : valM i s a = .int (lastV i).2 := (if_neg e1).trans (if_neg e2)
        obtain ⟨l, y, e, hy⟩ := hps.last (d := (0, 0)) hne
        have hy : H y = some (.tup [.int (lastV i).1, .int (lastV i).2]) := hy
        refine iteF ⟨_, rfl, p, T.c_Item, dx, _, _, rfl, hp, T.cl_Item, T.na_Item_kept, rfl, _, rfl, ka, _, _, .ref y, rfl, rfl, SqT.of hka, ?_, y, _, _, .int (lastV i).2, rfl, rfl, SqT.of hy, rfl, kk H _ (Same.refl H) (by rw [hv]; rfl)⟩
        rw [e, List.map_append]
        exact atI_last _ _
def spBinds : Sp := fun vs H Q _ => ∃ (e sp a : Str), vs = [.str e, .str sp, .str a] ∧ ∀ (H' : Hp), Same H H' → Q (.bl (bindM e sp a)) H'
theorem ok_binds : FnOk PP w K mg base CX0 1 T.f_binds T.d_binds ["ends", "spot", "answer"] spBinds := by
  refine T.F_binds.ok sc_binds (fun vs H Q E h => ?_) (fun cdv A outer s H vs Q E hr h => ?_)
  · obtain ⟨e, sp, a, rfl, _⟩ := h
    rfl
  · obtain ⟨e, sp, a, rfl, kk⟩ := h
    refine ⟨_, pss_cons (ps_if (pt_cmpR op_ne (pv 0) pe_str (nomark _))
 (pss_one (ps_ret pe_bl))
 pss_nil)
 (pss_cons (ps_if (pt_cmpR op_eq (pv 2) pe_str (nomark _))
 (pss_one (ps_ret (pe_cmpR op_ne (pv 1) pe_str (nomark _))))
 pss_nil)
 (pss_one (ps_ret (pe_and (pe_cmpR op_eq (pv 2) pe_str (nomark _)) (pe_one (pe_cmpR op_in_seq (pv 1) (pe_tup (pa_cons pe_str (pa_cons pe_str pa_nil))) rfl)))))), ?_⟩
    have two : 2 ≤ sizeLine := by decide
    refine ⟨_, rfl, rfl, _, rfl, ?_⟩
    rw [ds]
    by_cases e1 : e = "after"
    · rw [decide_eq_true e1]
      refine iteF ⟨_, rfl, rfl, _, rfl, ?_⟩
      rw [ds]
      by_cases e2 : a = "open"
      · rw [decide_eq_true e2]
        have hb : bindM e sp a = decide (sp ≠ "own") := by unfold bindM; rw [decide_eq_true e1, if_pos e2]; rfl
        rw [hb] at kk
        refine iteT ⟨_, rfl, rfl, ?_⟩
        rw [ds]
        have := kk H (Same.refl H)
        rw [show (!decide (sp = "own")) = decide (sp ≠ "own") from by by_cases q : sp = "own" <;> simp [q]]
        exact this
      · rw [decide_eq_false e2]
        have hb : bindM e sp a = (decide (a = "skip") && (decide (sp = "below") || decide (sp = "above"))) := by unfold bindM; rw [decide_eq_true e1, if_neg e2]; rfl
        rw [hb] at kk
        refine iteF ⟨_, rfl, rfl, _, rfl, ?_⟩
        rw [ds]
        by_cases e3 : a = "skip"
        · rw [decide_eq_true e3] at kk ⊢
          refine iteT ⟨_, rfl, two, fun t nt => ⟨t, _, rfl, .inr (SqT.of upd_same), rfl, rfl, ?_⟩⟩
          have := kk _ (same_new (o := .tup [.str "below", .str "above"]) (Same.refl H) nt)
          rw [show inV (V.str sp) [V.str "below", V.str "above"] = decide (sp ∈ (["below", "above"] : List Str)) from inV_str sp ["below", "above"]]
          rw [show decide (sp ∈ (["below", "above"] : List Str)) = (true && (decide (sp = "below") || decide (sp = "above"))) from by simp]
          exact this
        · rw [decide_eq_false e3] at kk ⊢
          exact iteF (kk H (Same.refl H))
    · rw [decide_eq_false e1]
      have hb : bindM e sp a = false := by unfold bindM; rw [decide_eq_false e1]; rfl
      rw [hb] at kk
      exact iteT (kk H (Same.refl H))
end
end K11

namespace K11
open PySem L2 SI CM BK OWN MIR StX TX TL
section
variable {w : World} {K : PySem.W.Frag} {mg : Str → Option Value} {base : Heap} (T : Txt w K mg)
def spBond (CS CI : Addr) : Sp := fun vs H Q _ => ∃ (p : Addr) (s h : Int) (U : List Int) (N : List Str) (σ : MIR.S), vs = [.ref p, .int s, .int h] ∧ StAt CS CI U N H p σ ∧ s ∈ U ∧ h ∈ U ∧ U.length ≤ 400 ∧ ∀ (H' : Hp) (q : Addr), Same H H' → StAt CS CI U N H' q (bondS σ s h) → Q (.ref q) H'
theorem ok_with_bond : FnOk PP w K mg base CX0 3 T.f_with_bond T.d_with_bond ["state", "stamp", "holder"] (spBond T.c_State T.c_Item) := by
  refine T.F_with_bond.ok sc_with_bond (fun vs H Q E h => ?_) (fun cdv A outer s H vs Q E hr h => ?_)
  · obtain ⟨p, s, h, U, N, σ, rfl, _⟩ := h
    rfl
  · obtain ⟨p, s, h, U, N, σ, rfl, st, hs, hh, hU, kk⟩ := h
    refine ⟨_, C8.pss_cut (ps_set (i := 3) sc_with_bond.nd rfl (.inl rfl) (pe_dget2 (hu_of hr) (pe_fld (pv 0) rfl) (pv 1) (pe_tup pa_nil) (by constructor <;> rfl)))
 (pss_cons (ps_if (pt_cmpR op_in_seq (pv 2) (pv 3) rfl)
 (pss_one (ps_ret (pv 0)))
 pss_nil)
 (pss_cons (ps_set (i := 4) sc_with_bond.nd rfl (.inl rfl) (pe_callTy call_dictD (by rfl) T.n_dict (by decide +kernel) (pa_cons (pe_fld (pv 0) rfl) pa_nil)))
 (pss_cons (ps_dput (hu_of hr) (pv 4) (pv 1) (pe_tup (pa_star (pv 3) (pa_cons (pv 2) pa_nil))) rfl)
 (pss_one (ps_ret (pe_make T.mk_State (ok_State_init T) (hr.mono (by decide)) (by rfl) T.g_State (b_State_init T) .nil pass0 (pa_cons (pe_fld (pv 0) rfl) (pa_cons (pe_fld (pv 0) rfl) (pa_cons (pv 4) pa_nil))))))))), ?_⟩
    obtain ⟨dx, dsx, dv, db, hp, n1, n2, n3, D1, D2, D3⟩ := st.ex
    obtain ⟨bv, hbv, bnd, hB⟩ := D3.ex
    obtain ⟨bdnd, bdU⟩ := bd_of hB s
    have zero : 0 ≤ sizeLine := by decide
    refine ⟨fun τ H' => ∃ q, τ = [some (.ref p), some (.int s), some (.int h), some (.ref q), none] ∧ H' q = some (.tup ((σ.bd s).map V.int)) ∧ Same H H', ?_, ?_⟩
    · refine ⟨_, rfl, p, T.c_State, dx, _, _, rfl, hp, T.cl_State, T.na_State_bonds, rfl, db, rfl, .inl ⟨bv, .inl hbv⟩, _, rfl, zero, fun t nt => ?_⟩
      have gg := DGet.k (k := Sum.inl s) (kp (o' := .tup []) nt hbv)
      have z := hB (.inl s)
      refine ⟨_, gg, ?_⟩
      cases e0 : valV bv (Sum.inl s) with
      | none =>
        rw [e0] at z
        exact ⟨t, rfl, by rw [show σ.bd s = [] from z]; exact upd_same, same_new (Same.refl H) nt⟩
      | some v =>
        rw [e0] at z
        obtain ⟨q, rfl, _, hq, _⟩ := z
        exact ⟨q, rfl, kp nt hq, same_new (Same.refl H) nt⟩
    rintro τ H1 ⟨q, rfl, hq, s1⟩
    have hp1 := s1 _ _ hp
    refine ⟨_, rfl, _, rfl, q, (σ.bd s).map V.int, rfl, .inr (SqT.of hq), rfl, flat_ints _, _, rfl, ?_⟩
    rw [inV_int]
    by_cases hb : h ∈ σ.bd s
    · rw [decide_eq_true hb]
      have e0 : bondS σ s h = σ := if_pos hb
      rw [e0] at kk
      exact iteT ⟨_, rfl, kk H1 p s1 (st.same s1)⟩
    · rw [decide_eq_false hb]
      have e0 : bondS σ s h = { σ with bd := fun t => if t = s then σ.bd s ++ [h] else σ.bd t } := if_neg hb
      rw [e0] at kk
      refine iteF ⟨_, rfl, p, T.c_State, dx, _, _, rfl, hp1, T.cl_State, T.na_State_bonds, rfl, db, bv, rfl, .inl (s1 _ _ hbv), fun O nO => ?_⟩
      have s2 := same_new (o := .dK bv) s1 nO
      have hO : (upd H1 O (.dK bv)) O = some (.dK bv) := upd_same
      have hq2 := kp (o' := .dK bv) nO hq
      have fO := s1.free nO
      generalize upd H1 O (.dK bv) = H2 at s2 hO hq2
      have bl : (σ.bd s).length ≤ 400 := by have := nd_le bdnd bdU; omega
      refine ⟨_, rfl, q, _, rfl, .inl (SqT.of hq2), _, rfl, by rw [List.length_append, List.length_map]; exact small1000 (show (σ.bd s).length ≤ 1000 by omega), fun u nu => ?_⟩
      have el : (σ.bd s).map V.int ++ [V.int h] = (σ.bd s ++ [h]).map V.int := by rw [List.map_append]; rfl
      rw [el]
      have s3 := same_new (o := .tup ((σ.bd s ++ [h]).map V.int)) s2 nu
      have hu : (upd H2 u (.tup ((σ.bd s ++ [h]).map V.int))) u = some (.tup ((σ.bd s ++ [h]).map V.int)) := upd_same
      have hO3 := kp (o' := .tup ((σ.bd s ++ [h]).map V.int)) nu hO
      generalize upd H2 u (.tup ((σ.bd s ++ [h]).map V.int)) = H3 at s3 hu hO3
      refine ⟨_, rfl, _, rfl, O, _, rfl, DPut.k (k := Sum.inl s) hO3 (small1000 (by have := len_bond bnd hB; omega)), ?_⟩
      have s4 : Same H (upd H3 O (.dK (putK bv (Sum.inl s) (.ref u)))) := fun x o z => by rw [upd_ne (ne_of_none z fO)]; exact s3 x o z
      have hO4 : (upd H3 O (.dK (putK bv (Sum.inl s) (.ref u)))) O = some (.dK (putK bv (Sum.inl s) (.ref u))) := upd_same
      have uO : u ≠ O := fun z => by rw [z, hO3] at hu; cases hu
      have hu4 : (upd H3 O (.dK (putK bv (Sum.inl s) (.ref u)))) u = some (.tup ((σ.bd s ++ [h]).map V.int)) := by rw [upd_ne uO]; exact hu
      generalize upd H3 O (.dK (putK bv (Sum.inl s) (.ref u))) = H4 at s4 hO4 hu4
      have hp4 := s4 _ _ hp
      refine ⟨_, rfl, p, T.c_State, dx, _, _, rfl, hp4, T.cl_State, T.na_State_store, rfl, _, rfl, p, T.c_State, dx, _, _, rfl, hp4, T.cl_State, T.na_State_over, rfl, _, rfl, fun x dx' nx ndx ne => mk_state nx ndx fun H5 s5 hx => ⟨rfl, ?_⟩⟩
      have s05 := s4.trans s5
      have nds : (σ.bd s ++ [h]).Nodup := List.nodup_append.mpr ⟨bdnd, List.nodup_cons.mpr ⟨List.not_mem_nil, List.nodup_nil⟩, fun a ha b hb' e => by rw [List.mem_singleton.mp hb'] at e; exact hb (e ▸ ha)⟩
      have pu := bond_put (σ' := { σ with bd := fun t => if t = s then σ.bd s ++ [h] else σ.bd t }) bnd hB s05 hs (s5 _ _ hu4) nds (fun y hy => (List.mem_append.mp hy).elim (bdU y) fun z => by rw [List.mem_singleton.mp z]; exact hh) (if_pos rfl) fun y ny => if_neg ny
      obtain ⟨sv, hsv, snd, hSt⟩ := D1.ex
      obtain ⟨ov, hov, ond, hOv⟩ := D2.ex
      exact kk H5 x s05 ⟨dx', dsx, dv, O, hx, n1, fun z => (by rw [← z, hsv] at fO; cases fO), fun z => (by rw [← z, hov] at fO; cases fO), ⟨sv, s05 _ _ hsv, snd, store_congr hSt (SameT.of s05) fun _ => rfl⟩, ⟨ov, s05 _ _ hov, ond, over_congr hOv fun _ => rfl⟩, ⟨_, s5 _ _ hO4, pu.1, pu.2⟩⟩
def spWItem (CS CI : Addr) : Sp := fun vs H Q _ => ∃ (p q : Addr) (n : Str) (i : MIR.It) (U : List Int) (N : List Str) (σ : MIR.S), vs = [.ref p, .str n, .ref q] ∧ StAt CS CI U N H p σ ∧ n ∈ N ∧ N.length ≤ 400 ∧ ItAt CI H q i ∧ WfI U i ∧ ∀ (H' : Hp) (q : Addr), Same H H' → StAt CS CI U N H' q (itS σ n i) → Q (.ref q) H'
theorem ok_with_item : FnOk PP w K mg base CX0 3 T.f_with_item T.d_with_item ["state", "name", "item"] (spWItem T.c_State T.c_Item) := by
  refine T.F_with_item.ok sc_with_item (fun vs H Q E h => ?_) (fun cdv A outer s H vs Q E hr h => ?_)
  · obtain ⟨p, q, n, i, U, N, σ, rfl, _⟩ := h
    rfl
  · obtain ⟨p, q, n, i, U, N, σ, rfl, st, hn, hN, hi, wf, kk⟩ := h
    refine ⟨_, pss_cons (ps_set (i := 3) sc_with_item.nd rfl (.inl rfl) (pe_callTy call_dictD (by rfl) T.n_dict (by decide +kernel) (pa_cons (pe_fld (pv 0) rfl) pa_nil)))
 (pss_cons (ps_dput (hu_of hr) (pv 3) (pv 1) (pv 2) rfl)
 (pss_one (ps_ret (pe_make T.mk_State (ok_State_init T) (hr.mono (by decide)) (by rfl) T.g_State (b_State_init T) .nil pass0 (pa_cons (pv 3) (pa_cons (pe_fld (pv 0) rfl) (pa_cons (pe_fld (pv 0) rfl) pa_nil))))))), ?_⟩
    obtain ⟨dx, dsx, dv, db, hp, n1, n2, n3, D1, D2, D3⟩ := st.ex
    obtain ⟨sv, hsv, snd, hSt⟩ := D1.ex
    obtain ⟨ov, hov, ond, hOv⟩ := D2.ex
    obtain ⟨bv, hbv, bnd, hB⟩ := D3.ex
    refine ⟨_, rfl, p, T.c_State, dx, _, _, rfl, hp, T.cl_State, T.na_State_store, rfl, dsx, sv, rfl, .inl hsv, fun O nO => ?_⟩
    refine ⟨_, rfl, _, rfl, _, rfl, O, _, rfl, DPut.k (k := Sum.inr n) upd_same (small1000 (by have := len_store snd hSt; omega)), ?_⟩
    have s2 : Same H (upd (upd H O (.dK sv)) O (.dK (putK sv (Sum.inr n) (.ref q)))) := fun x o z => by rw [upd_ne (ne_of_none z nO), upd_ne (ne_of_none z nO)]; exact z
    have hO2 : (upd (upd H O (.dK sv)) O (.dK (putK sv (Sum.inr n) (.ref q)))) O = some (.dK (putK sv (Sum.inr n) (.ref q))) := upd_same
    generalize upd (upd H O (.dK sv)) O (.dK (putK sv (Sum.inr n) (.ref q))) = H2 at s2 hO2
    have hp2 := s2 _ _ hp
    refine ⟨_, rfl, _, rfl, p, T.c_State, dx, _, _, rfl, hp2, T.cl_State, T.na_State_over, rfl, _, rfl, p, T.c_State, dx, _, _, rfl, hp2, T.cl_State, T.na_State_bonds, rfl, fun x dx' nx ndx ne => mk_state nx ndx fun H5 s5 hx => ⟨rfl, ?_⟩⟩
    have s05 := s2.trans s5
    have pu := store_put (σ' := itS σ n i) snd hSt (SameT.of s05) hn (hi.same s05) wf (if_pos rfl) fun y ny => if_neg ny
    exact kk H5 x s05 ⟨dx', O, dv, db, hx, fun z => (by rw [z, hov] at nO; cases nO), fun z => (by rw [z, hbv] at nO; cases nO), n3, ⟨_, s5 _ _ hO2, pu.1, pu.2⟩, ⟨ov, s05 _ _ hov, ond, over_congr hOv fun _ => rfl⟩, ⟨bv, s05 _ _ hbv, bnd, bond_congr hB s05 fun _ => rfl⟩⟩
def spWReader (CS CI : Addr) : Sp := fun vs H Q _ => ∃ (p : Addr) (n : Str) (s : Int) (U : List Int) (N : List Str) (σ : MIR.S), vs = [.ref p, .str n, .int s] ∧ StAt CS CI U N H p σ ∧ n ∈ N ∧ N.length ≤ 400 ∧ ∀ (H' : Hp) (q : Addr), Same H H' → StAt CS CI U N H' q (readS σ n s) → Q (.ref q) H'
theorem ok_with_reader : FnOk PP w K mg base CX0 4 T.f_with_reader T.d_with_reader ["state", "name", "stamp"] (spWReader T.c_State T.c_Item) := by
  refine T.F_with_reader.ok sc_with_reader (fun vs H Q E h => ?_) (fun cdv A outer s H vs Q E hr h => ?_)
  · obtain ⟨p, n, s, U, N, σ, rfl, _⟩ := h
    rfl
  · obtain ⟨p, n, s, U, N, σ, rfl, st, hn, hN, kk⟩ := h
    refine ⟨_, pss_cons (ps_set (i := 3) sc_with_reader.nd rfl (.inl rfl) (pe_call (ok_item_of T) (hr.mono (by decide)) (by rfl) T.g_item_of T.F_item_of.kp (b_item_of T) .nil pass0 (pa_cons (pv 0) (pa_cons (pv 1) pa_nil))))
 (pss_cons (ps_if (pt_cmpR op_le (pv 2) (pe_fld (pv 3) rfl) (nomark _))
 (pss_one (ps_ret (pv 0)))
 pss_nil)
 (pss_one (ps_ret (pe_call (ok_with_item T) (hr.mono (by decide)) (by rfl) T.g_with_item T.F_with_item.kp (b_with_item T) .nil pass0 (pa_cons (pv 0) (pa_cons (pv 1) (pa_cons (pe_make T.mk_Item (ok_Item_init T) (hr.mono (by decide)) (by rfl) T.g_Item (b_Item_init T) .nil pass0 (pa_cons (pe_fld (pv 3) rfl) (pa_cons (pe_fld (pv 3) rfl) (pa_cons (pe_fld (pv 3) rfl) (pa_cons (pv 2) pa_nil))))) pa_nil))))))), ?_⟩
    refine ⟨_, rfl, _, rfl, p, n, U, N, σ, rfl, st, fun H1 q s1 hi wf => ?_⟩
    obtain ⟨dx, ka, hq, hk⟩ := hi
    refine ⟨_, rfl, _, rfl, q, T.c_Item, dx, _, _, rfl, hq, T.cl_Item, T.na_Item_reader, rfl, _, _, rfl, rfl, _, rfl, ?_⟩
    by_cases c : s ≤ (σ.it n).rd
    · rw [decide_eq_true c]
      have e0 : readS σ n s = σ := if_pos c
      rw [e0] at kk
      exact iteT ⟨_, rfl, kk H1 p s1 (st.same s1)⟩
    · rw [decide_eq_false c]
      have e0 : readS σ n s = itS σ n { σ.it n with rd := s } := if_neg c
      rw [e0] at kk
      refine iteF ⟨_, rfl, _, rfl, _, rfl, q, T.c_Item, dx, _, _, rfl, hq, T.cl_Item, T.na_Item_kept, rfl, _, rfl, q, T.c_Item, dx, _, _, rfl, hq, T.cl_Item, T.na_Item_holder, rfl, _, rfl, q, T.c_Item, dx, _, _, rfl, hq, T.cl_Item, T.na_Item_value, rfl, _, rfl, fun x dx' nx ndx ne => mk_item nx ndx fun H5 s5 hx => ⟨rfl, ?_⟩⟩
      exact ⟨p, x, n, { σ.it n with rd := s }, U, N, σ, rfl, st.same (s1.trans s5), hn, hN, ⟨dx', ka, hx, hk.same s5⟩, { ne := wf.ne, le := wf.le, ho := wf.ho }, fun H6 r s6 hst => kk H6 r ((s1.trans s5).trans s6) hst⟩
end
end K11

namespace K11
open PySem L2 SI CM BK OWN
section
variable {w : World} {K : PySem.W.Frag} {mg : Str → Option Value} {base : Heap} (T : Txt w K mg)
/-- book[entry] -/
def spGet (C B : Addr) : Sp := fun vs H Q E => ∃ b dx d f e k v, vs = [.ref b, v] ∧ Bk C H b dx d f e k ∧ flatV v = true ∧ (∀ x, v = .str x → x ∈ ENT → Q (.str (f x)) H) ∧ (¬ isEnt v → ∀ x, H x = none → E (.ref B) (some x) (upd H x (.xd [(("entry" : Str), v)])))
theorem ok_get : FnOk PP w K mg base (L2.CX PP w) 4 T.f_Book_getitem T.d_Book_getitem ["self", "entry"] (spGet T.c_Book T.c_BadEntry) := by
  refine T.F_Book_getitem.okX sc_Book_getitem (fun vs H Q E h => ?_) (fun cdv A outer s H vs Q E hr h => ?_)
  · obtain ⟨b, dx, d, f, e, k, v, rfl, _⟩ := h
    rfl
  · obtain ⟨b, dx, d, f, e, k, v, rfl, B, fv, kT, kF⟩ := h
    refine ⟨_, pss_cons (ps_if (pt_cmpR op_notIn_seq (pv 1) (pe_glob (v := .ref T.o_ENTRIES) (by rfl) T.g_ENTRIES rfl) rfl)
 (pss_one (ps_raise rfl (takes_of rfl rfl rfl rfl) (pmk_oex T.oex_BadEntry T.i_BadEntry_init T.t_BadEntry_init (ok_BadEntry T) (hr.mono (by decide)) (b_BadEntry_init T) .nil pass0 (by rfl) T.g_BadEntry (pa_cons (pv 1) pa_nil))))
 pss_nil)
 (pss_one (ps_ret (pe_dget (hu_of hr) (pe_fld (pv 0) rfl) (pv 1) (fun _ _ => rfl)))), ?_⟩
    refine ⟨_, rfl, T.o_ENTRIES, ENT.map V.str, rfl, .inr (T.q_ENTRIES H), fv, flat_strs _, _, rfl, ?_⟩
    by_cases hE : isEnt v
    · obtain ⟨x, rfl, hx⟩ := hE
      rw [inV_str, decide_eq_true hx]
      refine iteF ⟨_, rfl, b, T.c_Book, dx, _, _, rfl, B.ins, T.cl_Book, T.na_Book__answers, rfl, _, rfl, d, .str (f x), rfl, ?_, kT x rfl hx⟩
      have g := DGet.k (k := Sum.inr x) B.tbl
      rw [val_in (g := V.str) hx] at g
      exact g
    · rw [inV_not fun x h1 h2 => hE ⟨x, h1, h2⟩]
      exact iteT ⟨_, rfl, rz1 (kF hE)⟩
end
end K11

namespace K11
open PySem L2 SI CM BK OWN MIR StX TX TL
section
variable {w : World} {K : PySem.W.Frag} {mg : Str → Option Value} {base : Heap} (T : Txt w K mg)
theorem place_spots (s x : Int) (h : Option Int) : placeM s x h ∈ SPOTS := by
  unfold placeM
  cases h with
  | none => show (if x < s then ("free" : Str) else "late") ∈ SPOTS; split <;> decide +kernel
  | some h => show (if h = s then ("own" : Str) else if s < x then "under" else if s < h then "below" else "above") ∈ SPOTS; exact (by by_cases a : h = s; (rw [if_pos a]; decide +kernel); rw [if_neg a]; by_cases c : s < x; (rw [if_pos c]; decide +kernel); rw [if_neg c]; by_cases g : s < h; (rw [if_pos g]; decide +kernel); rw [if_neg g]; decide +kernel)
theorem em_eq : ∀ k ∈ KINDS, ∀ sp ∈ SPOTS, ∀ p : Bool, entM k sp p = metM k sp p := by
  have h : ∀ k ∈ KINDS, ∀ sp ∈ SPOTS, ∀ p ∈ [true, false], entM k sp p = metM k sp p := by decide +kernel
  intro k hk sp hs p
  exact h k hk sp hs p (by cases p <;> simp)
def spotOf (σ : MIR.S) (s : Int) (n : Str) : Str := placeM s (lastV (σ.it n)).1 (hOf (σ.it n))
def entOf (σ : MIR.S) (kd : Str) (s : Int) (n : Str) : Option Str := metM kd (spotOf σ s n) (decide ((σ.it n).rd > s))
def metL (e : Option Str) : List Str := match e with | none => [] | some e => [e]
def ansL (B : Bkm) (kd sp : Str) (e : Option Str) : Str := match e with | none => MIR.fixM kd sp | some e => B.f e
noncomputable def askR (B : Bkm) (σ : MIR.S) (kd : Str) (s : Int) (n : Str) (v : Int) (met : List Str) (ans : Str) : MIR.S × Out :=
  if ans = "wait" then (σ, ⟨"wait", met, .tup [hInt (σ.it n)], []⟩)
  else if ans = "wound" then (fallS σ (fal σ (hInt (σ.it n))), ⟨"wound", met, .non, fal σ (hInt (σ.it n))⟩)
  else if ans = "abort" ∨ (ans = "old" ∧ oldM (σ.it n) s = []) then (fallS σ (fal σ s), ⟨"abort", met, .non, fal σ s⟩)
  else
    if kd = "read" then (readS (if bindM B.ends (spotOf σ s n) ans = true then bondS σ s (hInt (σ.it n)) else σ) n s, ⟨"read", met, valM (σ.it n) s ans, []⟩)
    else if ans = "skip" then (if bindM B.ends (spotOf σ s n) ans = true then bondS σ s (hInt (σ.it n)) else σ, ⟨"skip", met, .non, []⟩)
    else (itS (if bindM B.ends (spotOf σ s n) ans = true then bondS σ s (hInt (σ.it n)) else σ) n { σ.it n with opn := some (s, v) }, ⟨"put", met, .non, []⟩)
theorem ask_R (B : Bkm) (σ : MIR.S) (kd : Str) (s : Int) (n : Str) (v : Int) : askM B σ kd s n v = askR B σ kd s n v (metL (entOf σ kd s n)) (ansL B kd (spotOf σ s n) (entOf σ kd s n)) := rfl
/-- where nobody holds the item -/
theorem no_hold {f : Str → Str} (hf : ∀ x ∈ ENT, f x ∈ chs x) (B : Bkm) (hB : B.f = f) {kd : Str} (hk : kd ∈ KINDS) {s x : Int} (p : Bool) :
    ansL B kd (placeM s x none) (metM kd (placeM s x none) p) ∈ (["put", "abort", "last", "old", "skip"] : List Str) ∧ placeM s x none ∈ (["free", "late"] : List Str) := by
  have hs : placeM s x none ∈ (["free", "late"] : List Str) := by
    show (if x < s then ("free" : Str) else "late") ∈ _
    split <;> decide +kernel
  refine ⟨?_, hs⟩
  have h1 : ∀ k ∈ KINDS, ∀ sp ∈ (["free", "late"] : List Str), ∀ p ∈ [true, false], (match metM k sp p with | none => decide (MIR.fixM k sp ∈ (["put", "abort", "last", "old", "skip"] : List Str)) | some e => decide (e ∈ ENT) && (chs e).all fun a => decide (a ∈ (["put", "abort", "last", "old", "skip"] : List Str))) = true := by decide +kernel
  have h2 := h1 kd hk _ hs p (by cases p <;> simp)
  unfold ansL
  cases e : metM kd (placeM s x none) p with
  | none => rw [e] at h2; exact of_decide_eq_true h2
  | some y =>
    rw [e] at h2
    have h3 : (decide (y ∈ ENT) && (chs y).all fun a => decide (a ∈ (["put", "abort", "last", "old", "skip"] : List Str))) = true := h2
    rw [Bool.and_eq_true] at h3
    have h4 := List.all_eq_true.mp h3.2 (f y) (hf y (of_decide_eq_true h3.1))
    show B.f y ∈ _
    rw [hB]
    exact of_decide_eq_true h4
theorem ent_ENT {kd : Str} (hk : kd ∈ KINDS) {sp : Str} (hs : sp ∈ SPOTS) {p : Bool} {e : Str} (h : metM kd sp p = some e) : e ∈ ENT := ent_in kd hk sp hs p e (by rw [em_eq kd hk sp hs p]; exact h)
def FOk (U : List Int) (σ : MIR.S) (s h : Int) (o : Out) : Prop := (∀ t ∈ o.fallen, t ∈ U) ∧ (o.word ≠ "wound" → o.fallen = [] ∨ IsF σ s o.fallen) ∧ (o.word = "wound" → IsF σ h o.fallen)
theorem fok_nil {U : List Int} {σ : MIR.S} {s h : Int} {w : Str} {m : List Str} {v : OV} (hw : w ≠ "wound") : FOk U σ s h ⟨w, m, v, []⟩ := ⟨fun t h => (by cases h), fun _ => .inl rfl, fun z => absurd z hw⟩
/-- a step that reads or writes -/
def ReqAt (H : Hp) (st : Addr) (kd : Str) (s : Int) (n : Str) : Prop := H st = some (.tup [.str kd, .int s, .str n])
def spAsked (CB CS CI : Addr) : Sp := fun vs H Q _ => ∃ (b dxb d : Addr) (f : Str → Str) (e : Str) (k : Nat) (p st : Addr) (v : V) (z : Int) (kd : Str) (s : Int) (n : Str) (U : List Int) (N : List Str) (σ : MIR.S), vs = [.ref b, .ref p, .ref st, v] ∧
  Bk CB H b dxb d f e (k : Int) ∧ (∀ x ∈ ENT, f x ∈ chs x) ∧ ReqAt H st kd s n ∧ kd ∈ KINDS ∧ (kd = "write" → v = .int z) ∧ StAt CS CI U N H p σ ∧ s ∈ U ∧ n ∈ N ∧ U.length ≤ 400 ∧ N.length ≤ 400 ∧
  ∀ (H' : Hp) (q : Addr), Same H H' → PairAt CS CI U N H' q (askM ⟨f, e, k⟩ σ kd s n z) → FOk U σ s (hInt (σ.it n)) (askM ⟨f, e, k⟩ σ kd s n z).2 → Q (.ref q) H'
theorem ok_asked : FnOk PP w K mg base CX0 8 T.f_asked T.d_asked ["book", "state", "step", "value"] (spAsked T.c_Book T.c_State T.c_Item) := by
  refine T.F_asked.ok sc_asked (fun vs H Q E h => ?_) (fun cdv A outer s H vs Q E hr h => ?_)
  · obtain ⟨b, dxb, d, f, e, k, p, st, v, z, kd, s, n, U, N, σ, rfl, _⟩ := h
    rfl
  · obtain ⟨b, dxb, d, f, e, k, p, st, v, z, kd, s, n, U, N, σ, rfl, B, hf, hst, hkd, hv, hσ, hs, hn, hU, hN, kk⟩ := h
    refine ⟨_, pss_cons (ps_asg (pv 2) (pg_tup rfl (pgs_cons (pg_name (i := 4) sc_asked.nd rfl (.inl rfl)) (pgs_cons (pg_name (i := 5) sc_asked.nd rfl (.inl rfl)) (pgs_cons (pg_name (i := 6) sc_asked.nd rfl (.inl rfl)) pgs_nil)))))
 (pss_cons (ps_set (i := 7) sc_asked.nd rfl (.inl rfl) (pe_call (ok_item_of T) (hr.mono (by decide)) (by rfl) T.g_item_of T.F_item_of.kp (b_item_of T) .nil pass0 (pa_cons (pv 1) (pa_cons (pv 6) pa_nil))))
 (pss_cons (ps_set (i := 8) sc_asked.nd rfl (.inl rfl) (pe_call (ok_place T) (hr.mono (by decide)) (by rfl) T.g_place T.F_place.kp (b_place T) .nil pass0 (pa_cons (pv 5) (pa_cons (pe_ix ix_tup (pe_ix ix_tup (pe_fld (pv 7) rfl) (pe_un un_neg pe_int) (fun _ _ => rfl)) pe_int (fun _ _ => rfl)) (pa_cons (pe_fld (pv 7) rfl) pa_nil)))))
 (pss_cons (ps_set (i := 9) sc_asked.nd rfl (.inl rfl) (pe_call (ok_entry_met T) (hr.mono (by decide)) (by rfl) T.g_entry_met T.F_entry_met.kp (b_entry_met T) .nil pass0 (pa_cons (pv 4) (pa_cons (pv 8) (pa_cons (pe_cmpR op_gt (pe_fld (pv 7) rfl) (pv 5) (nomark _)) pa_nil)))))
 (C8.pss_cut (ps_if (pt_cmpR op_isN (pv 9) pe_non (nomark _))
 (pss_one (ps_par (i := 10) (j := 11) (by rfl) sc_asked.nd rfl rfl (by decide) rfl rfl (pa_cons (pe_tup pa_nil) (pa_cons (pe_call (ok_fixed T) (hr.mono (by decide)) (by rfl) T.g_fixed_answer T.F_fixed_answer.kp (b_fixed_answer T) .nil pass0 (pa_cons (pv 4) (pa_cons (pv 8) pa_nil))) pa_nil)) (by rfl)))
 (pss_one (ps_par (i := 10) (j := 11) (by rfl) sc_asked.nd rfl rfl (by decide) rfl rfl (pa_cons (pe_tup (pa_cons (pv 9) pa_nil)) (pa_cons (pe_ixO T.m_Book_getitem T.fi_Book_getitem (ownF (ok_get T) (b_Book_getitem T)) (hr.mono (by decide)) (fun σ => passAll passL σ) (pv 0) (pv 9) (fun _ _ => rfl)) pa_nil)) (by rfl))))
 (pss_cons (ps_if (pt_cmpR op_eq (pv 11) pe_str (nomark _))
 (pss_one (ps_ret (pe_tup (pa_cons (pv 1) (pa_cons (pe_tup (pa_cons pe_str (pa_cons (pv 10) (pa_cons (pe_tup (pa_cons (pe_fld (pv 7) rfl) pa_nil)) (pa_cons (pe_tup pa_nil) pa_nil))))) pa_nil)))))
 pss_nil)
 (pss_cons (ps_if (pt_cmpR op_eq (pv 11) pe_str (nomark _))
 (pss_cons (ps_asg (pe_call (ok_without T) (hr.mono (by decide)) (by rfl) T.g_without T.F_without.kp (b_without T) .nil pass0 (pa_cons (pv 1) (pa_cons (pe_fld (pv 7) rfl) pa_nil))) (pg_tup rfl (pgs_cons (pg_name (i := 12) sc_asked.nd rfl (.inl rfl)) (pgs_cons (pg_name (i := 13) sc_asked.nd rfl (.inl rfl)) pgs_nil))))
 (pss_one (ps_ret (pe_tup (pa_cons (pv 12) (pa_cons (pe_tup (pa_cons pe_str (pa_cons (pv 10) (pa_cons pe_non (pa_cons (pv 13) pa_nil))))) pa_nil))))))
 pss_nil)
 (C8.pss_cut (ps_if (PW.pt (pw_or (pt_cmpR op_eq (pv 11) pe_str (nomark _)) (pw_or1 (PW.pt (pw_and (pt_cmpR op_eq (pv 11) pe_str (nomark _)) (pw_and1 (pt_not (pt_truth (pe_call (ok_older_values T) (hr.mono (by decide)) (by rfl) T.g_older_values T.F_older_values.kp (b_older_values T) .nil pass0 (pa_cons (pv 7) (pa_cons (pv 5) pa_nil))) (by intro _; rfl)))))))))
 (pss_one (ps_ret (pe_call (ok_aborted T) (hr.mono (by decide)) (by rfl) T.g_aborted T.F_aborted.kp (b_aborted T) .nil pass0 (pa_cons (pv 1) (pa_cons (pv 5) (pa_cons (pv 10) pa_nil))))))
 pss_nil)
 (C8.pss_cut (ps_if (pt_val (pe_call (ok_binds T) (hr.mono (by decide)) (by rfl) T.g_binds T.F_binds.kp (b_binds T) .nil pass0 (pa_cons (pe_prop (pv 0) T.cl_Book T.p_Book_ends (ok_ends T) (hr.mono (by decide)) (b_Book_ends T) .nil pass0 rfl) (pa_cons (pv 8) (pa_cons (pv 11) pa_nil)))))
 (pss_one (ps_set (i := 1) sc_asked.nd rfl (.inl rfl) (pe_call (ok_with_bond T) (hr.mono (by decide)) (by rfl) T.g_with_bond T.F_with_bond.kp (b_with_bond T) .nil pass0 (pa_cons (pv 1) (pa_cons (pv 5) (pa_cons (pe_fld (pv 7) rfl) pa_nil))))))
 pss_nil)
 (pss_cons (ps_if (pt_cmpR op_eq (pv 4) pe_str (nomark _))
 (pss_one (ps_ret (pe_tup (pa_cons (pe_call (ok_with_reader T) (hr.mono (by decide)) (by rfl) T.g_with_reader T.F_with_reader.kp (b_with_reader T) .nil pass0 (pa_cons (pv 1) (pa_cons (pv 6) (pa_cons (pv 5) pa_nil)))) (pa_cons (pe_tup (pa_cons pe_str (pa_cons (pv 10) (pa_cons (pe_call (ok_value_read T) (hr.mono (by decide)) (by rfl) T.g_value_read T.F_value_read.kp (b_value_read T) .nil pass0 (pa_cons (pv 7) (pa_cons (pv 5) (pa_cons (pv 11) pa_nil)))) (pa_cons (pe_tup pa_nil) pa_nil))))) pa_nil)))))
 pss_nil)
 (pss_cons (ps_if (pt_cmpR op_eq (pv 11) pe_str (nomark _))
 (pss_one (ps_ret (pe_tup (pa_cons (pv 1) (pa_cons (pe_tup (pa_cons pe_str (pa_cons (pv 10) (pa_cons pe_non (pa_cons (pe_tup pa_nil) pa_nil))))) pa_nil)))))
 pss_nil)
 (pss_cons (ps_set (i := 14) sc_asked.nd rfl (.inl rfl) (pe_make T.mk_Item (ok_Item_init T) (hr.mono (by decide)) (by rfl) T.g_Item (b_Item_init T) .nil pass0 (pa_cons (pe_fld (pv 7) rfl) (pa_cons (pv 5) (pa_cons (pv 3) (pa_cons (pe_fld (pv 7) rfl) pa_nil))))))
 (pss_one (ps_ret (pe_tup (pa_cons (pe_call (ok_with_item T) (hr.mono (by decide)) (by rfl) T.g_with_item T.F_with_item.kp (b_with_item T) .nil pass0 (pa_cons (pv 1) (pa_cons (pv 6) (pa_cons (pv 14) pa_nil)))) (pa_cons (pe_tup (pa_cons pe_str (pa_cons (pv 10) (pa_cons pe_non (pa_cons (pe_tup pa_nil) pa_nil))))) pa_nil)))))))))))))))), ?_⟩
    have zero : 0 ≤ sizeLine := by decide
    have one : 1 ≤ sizeLine := by decide
    have two : 2 ≤ sizeLine := by decide
    have four : 4 ≤ sizeLine := by decide
    have hst : H st = some (.tup [.str kd, .int s, .str n]) := hst
    rw [ask_R] at kk
    refine ⟨_, rfl, st, _, rfl, SqT.of hst, rfl, _, _, rfl, _, _, rfl, _, _, rfl, rfl, ?_⟩
    refine ⟨_, rfl, _, rfl, p, n, U, N, σ, rfl, hσ, fun H1 q s1 hi wf => ?_⟩
    have hi' := hi
    obtain ⟨dx, ka, hq, ps, hka, hps⟩ := hi
    obtain ⟨l, y, el, hy⟩ := hps.last (d := (0, 0)) wf.ne
    have hy : H1 y = some (.tup [.int (lastV (σ.it n)).1, .int (lastV (σ.it n)).2]) := hy
    have hlast : atI (ps.map V.ref) (-1) = some (.ref y) := by rw [el, List.map_append]; exact atI_last _ _
    refine ⟨_, rfl, _, rfl, q, T.c_Item, dx, _, _, rfl, hq, T.cl_Item, T.na_Item_kept, rfl, _, rfl, ka, _, _, .ref y, rfl, rfl, SqT.of hka, hlast, y, _, _, .int (lastV (σ.it n)).1, rfl, rfl, SqT.of hy, rfl, _, rfl, q, T.c_Item, dx, _, _, rfl, hq, T.cl_Item, T.na_Item_holder, rfl, s, (lastV (σ.it n)).1, hOf (σ.it n), by rw [hV_o]; rfl, ?_⟩
    have hsp : placeM s (lastV (σ.it n)).1 (hOf (σ.it n)) ∈ SPOTS := place_spots _ _ _
    refine ⟨_, rfl, _, rfl, _, rfl, q, T.c_Item, dx, _, _, rfl, hq, T.cl_Item, T.na_Item_reader, rfl, _, rfl, _, _, rfl, rfl, kd, _, _, rfl, hkd, hsp, fun H2 s2 => ?_⟩
    rw [em_eq kd hkd _ hsp]
    have eent : metM kd (placeM s (lastV (σ.it n)).1 (hOf (σ.it n))) (decide ((σ.it n).rd > s)) = entOf σ kd s n := rfl
    rw [eent]
    have s12 := s1.trans s2
    generalize hen : entOf σ kd s n = en at kk eent
    have hspot : placeM s (lastV (σ.it n)).1 (hOf (σ.it n)) = spotOf σ s n := rfl
    rw [hspot] at hsp ⊢
    generalize han : ansL ⟨f, e, k⟩ kd (spotOf σ s n) en = an at kk
    refine ⟨fun τ H' => ∃ m, τ = [some (.ref b), some (.ref p), some (.ref st), some v, some (.str kd), some (.int s), some (.str n), some (.ref q), some (.str (spotOf σ s n)), some (oV en), some (.ref m), some (.str an), none, none, none] ∧ H' m = some (.tup ((metL en).map V.str)) ∧ Same H2 H', ?_, ?_⟩
    · cases en with
      | none =>
        refine ⟨_, rfl, rfl, _, rfl, iteT ⟨zero, fun t nt => ⟨_, rfl, _, rfl, kd, _, rfl, _, _, rfl, ?_⟩⟩⟩
        rw [← han]
        exact ⟨t, rfl, upd_same, same_new (Same.refl H2) nt⟩
      | some x =>
        have hx := ent_ENT hkd hsp hen
        refine ⟨_, rfl, rfl, _, rfl, iteF ⟨_, rfl, one, fun t nt => ?_⟩⟩
        have B3 := B.same (same_new (o := .tup [.str x]) s12 nt)
        refine ⟨_, rfl, _, rfl, b, dxb, _, rfl, B3.ins, b, dxb, d, f, e, k, .str x, rfl, B3, rfl, fun x' hx' _ => ?_, fun hn => absurd ⟨x, rfl, hx⟩ hn⟩
        cases hx'
        rw [← han]
        exact ⟨_, _, rfl, ⟨t, rfl, upd_same, same_new (Same.refl H2) nt⟩⟩
    rintro τ H3 ⟨m, rfl, hm, s23⟩
    have s3 := s12.trans s23
    have s13 := s2.trans s23
    have hq3 := s13 _ _ hq
    have hi3 := hi'.same s13
    have hσ3 := hσ.same s3
    have B3 := B.same s3
    have nohold : hOf (σ.it n) = none → an ∈ (["put", "abort", "last", "old", "skip"] : List Str) ∧ spotOf σ s n ∈ (["free", "late"] : List Str) := fun h0 => by
      have := no_hold hf ⟨f, e, k⟩ rfl hkd (s := s) (x := (lastV (σ.it n)).1) (decide ((σ.it n).rd > s))
      rw [← h0, hspot, show metM kd (spotOf σ s n) (decide ((σ.it n).rd > s)) = en from hen, han] at this
      exact this
    have holds : an ∉ (["put", "abort", "last", "old", "skip"] : List Str) → ∃ h z, (σ.it n).opn = some (h, z) := fun c => by
      cases ho : (σ.it n).opn with
      | none => exact absurd (nohold (by unfold hOf; rw [ho]; rfl)).1 c
      | some hz => exact ⟨hz.1, hz.2, rfl⟩
    refine ⟨_, rfl, rfl, _, rfl, ?_⟩
    rw [ds]
    by_cases c1 : an = "wait"
    · rw [decide_eq_true c1]
      obtain ⟨h, zz, ho⟩ := holds (by rw [c1]; decide +kernel)
      have e1 : hV (σ.it n) = .int (hInt (σ.it n)) := by unfold hV hInt; rw [ho]
      have er : askR ⟨f, e, k⟩ σ kd s n z (metL en) an = (σ, ⟨"wait", metL en, .tup [hInt (σ.it n)], []⟩) := if_pos c1
      rw [er] at kk
      refine iteT ⟨_, rfl, _, rfl, _, rfl, q, T.c_Item, dx, _, _, rfl, hq3, T.cl_Item, T.na_Item_holder, rfl, ?_⟩
      rw [e1]
      refine ⟨one, fun t nt => ⟨zero, fun u nu => ⟨four, fun o no => ⟨two, fun r nr => ?_⟩⟩⟩⟩
      have t1 := same_new (o := .tup [.int (hInt (σ.it n))]) (Same.refl H3) nt
      have t2 := same_new (o := .tup []) t1 nu
      have t3 := same_new (o := .tup [.str "wait", .ref m, .ref t, .ref u]) t2 no
      have t4 := same_new (o := .tup [.ref p, .ref o]) t3 nr
      exact kk _ r (s3.trans t4) ⟨p, o, upd_same, hσ.same (s3.trans t4), ⟨m, .ref t, u, kp nr upd_same, t4 _ _ hm, ⟨t, rfl, kp nr (kp no (kp nu upd_same))⟩, kp nr (kp no upd_same)⟩⟩ (fok_nil (by decide +kernel))
    rw [decide_eq_false c1]
    refine iteF ⟨_, rfl, rfl, _, rfl, ?_⟩
    rw [ds]
    by_cases c2 : an = "wound"
    · rw [decide_eq_true c2]
      obtain ⟨h, zz, ho⟩ := holds (by rw [c2]; decide +kernel)
      have e1 : hV (σ.it n) = .int (hInt (σ.it n)) := by unfold hV hInt; rw [ho]
      have hU' : hInt (σ.it n) ∈ U := by unfold hInt; rw [ho]; exact wf.ho h zz ho
      have er : askR ⟨f, e, k⟩ σ kd s n z (metL en) an = (fallS σ (fal σ (hInt (σ.it n))), ⟨"wound", metL en, .non, fal σ (hInt (σ.it n))⟩) := (if_neg c1).trans (if_pos c2)
      rw [er] at kk
      refine iteT ⟨_, rfl, _, rfl, q, T.c_Item, dx, _, _, rfl, hq3, T.cl_Item, T.na_Item_holder, rfl, p, hInt (σ.it n), U, N, σ, by rw [e1]; rfl, hσ3, hU', hU, hN, fun H4 q4 s4 ⟨a4, f4, hq4, hst4, hf4⟩ hF => ?_⟩
      refine ⟨q4, _, rfl, SqT.of hq4, rfl, _, _, rfl, _, _, rfl, rfl, ?_⟩
      refine ⟨_, rfl, _, rfl, _, rfl, four, fun o no => ⟨two, fun r nr => ?_⟩⟩
      have t3 := same_new (o := .tup [.str "wound", .ref m, .non, .ref f4]) (Same.refl H4) no
      have t4 := same_new (o := .tup [.ref a4, .ref o]) t3 nr
      exact kk _ r ((s3.trans s4).trans t4) ⟨a4, o, upd_same, hst4.same t4, ⟨m, .non, f4, kp nr upd_same, (s4.trans t4) _ _ hm, rfl, t4 _ _ hf4⟩⟩ ⟨hF.1, fun z => absurd rfl z, fun _ => hF.2⟩
    rw [decide_eq_false c2]
    refine iteF ?_
    refine ⟨fun τ H' => τ = [some (.ref b), some (.ref p), some (.ref st), some v, some (.str kd), some (.int s), some (.str n), some (.ref q), some (.str (spotOf σ s n)), some (oV en), some (.ref m), some (.str an), none, none, none] ∧ Same H3 H' ∧ ¬ (an = "abort" ∨ (an = "old" ∧ oldM (σ.it n) s = [])), ?_, ?_⟩
    · refine ⟨_, rfl, rfl, _, rfl, ?_⟩
      rw [ds]
      have abo : (an = "abort" ∨ (an = "old" ∧ oldM (σ.it n) s = [])) → ∀ {H4 : Hp}, Same H3 H4 → spAborted T.c_State T.c_Item [.ref p, .int s, .ref m] H4 Q E0 := fun c {H4} s34 => by
        have er : askR ⟨f, e, k⟩ σ kd s n z (metL en) an = (fallS σ (fal σ s), ⟨"abort", metL en, .non, fal σ s⟩) := (if_neg c1).trans ((if_neg c2).trans (if_pos c))
        rw [er] at kk
        exact ⟨p, m, s, metL en, U, N, σ, rfl, hσ3.same s34, hs, hU, hN, s34 _ _ hm, fun H5 q5 s5 hp hF => kk H5 q5 ((s3.trans s34).trans s5) hp ⟨hF.1, fun _ => .inr hF.2, fun z => absurd z (show ("abort" : Str) ≠ "wound" from by decide +kernel)⟩⟩
      by_cases c3 : an = "abort"
      · rw [decide_eq_true c3]
        exact iteT (iteT ⟨_, rfl, _, rfl, _, rfl, abo (.inl c3) (Same.refl _)⟩)
      rw [decide_eq_false c3]
      refine iteF ⟨_, rfl, rfl, _, rfl, ?_⟩
      rw [ds]
      by_cases c5 : an = "old"
      · rw [decide_eq_true c5]
        refine iteT ⟨_, rfl, _, rfl, q, σ.it n, s, rfl, hi3, wf.le, fun H4 r s34 nr hr => ⟨_, .inl ⟨_, SqL.of hr, rfl⟩, ?_⟩⟩
        cases hO : oldM (σ.it n) s with
        | nil => exact iteT ⟨_, rfl, _, rfl, _, rfl, abo (.inr ⟨c5, hO⟩) s34⟩
        | cons y l => exact iteF ⟨rfl, s34, fun z => z.elim c3 fun q => by cases q.2⟩
      · rw [decide_eq_false c5]
        exact iteF (iteF ⟨rfl, Same.refl _, fun z => z.elim c3 fun q => c5 q.1⟩)
    rintro τ H4 ⟨rfl, s34, c3⟩
    have er : askR ⟨f, e, k⟩ σ kd s n z (metL en) an = _ := (if_neg c1).trans ((if_neg c2).trans (if_neg c3))
    rw [er] at kk
    have hi4 := hi3.same s34
    have hq4 := s34 _ _ hq3
    have hm4 := s34 _ _ hm
    have s4 := s3.trans s34
    have hσ4 := hσ3.same s34
    have B4 := B3.same s34
    generalize hσ' : (if bindM e (spotOf σ s n) an = true then bondS σ s (hInt (σ.it n)) else σ) = σ' at kk
    refine ⟨fun τ H' => ∃ p', τ = [some (.ref b), some (.ref p'), some (.ref st), some v, some (.str kd), some (.int s), some (.str n), some (.ref q), some (.str (spotOf σ s n)), some (oV en), some (.ref m), some (.str an), none, none, none] ∧ Same H4 H' ∧ StAt T.c_State T.c_Item U N H' p' σ', ?_, ?_⟩
    · refine ⟨_, rfl, b, dxb, _, rfl, B4.ins, b, dxb, d, f, e, (k : Int), rfl, B4, _, rfl, _, rfl, e, _, an, rfl, fun H5 s5 => ⟨_, rfl, ?_⟩⟩
      by_cases cb : bindM e (spotOf σ s n) an = true
      · rw [cb]
        rw [if_pos cb] at hσ'
        obtain ⟨h, zz, ho⟩ : ∃ h z, (σ.it n).opn = some (h, z) := by
          cases ho : (σ.it n).opn with
          | some hz => exact ⟨hz.1, hz.2, rfl⟩
          | none =>
            obtain ⟨h1, h2⟩ := nohold (by unfold hOf; rw [ho]; rfl)
            have : ∀ a ∈ (["put", "abort", "last", "old", "skip"] : List Str), ∀ sp ∈ (["free", "late"] : List Str), bindM e sp a = false := by
              have : ∀ a ∈ (["put", "abort", "last", "old", "skip"] : List Str), ∀ sp ∈ (["free", "late"] : List Str), (if a = "open" then decide (sp ≠ "own") else decide (a = "skip") && (decide (sp = "below") || decide (sp = "above"))) = false := by decide +kernel
              intro a ha sp hsp
              unfold bindM
              rw [this a ha sp hsp, Bool.and_false]
            rw [this _ h1 _ h2] at cb
            cases cb
        have e1 : hV (σ.it n) = .int (hInt (σ.it n)) := by unfold hV hInt; rw [ho]
        have hU' : hInt (σ.it n) ∈ U := by unfold hInt; rw [ho]; exact wf.ho h zz ho
        refine iteT ⟨_, rfl, _, rfl, _, rfl, q, T.c_Item, dx, _, _, rfl, s5 _ _ hq4, T.cl_Item, T.na_Item_holder, rfl, p, s, hInt (σ.it n), U, N, σ, by rw [e1]; rfl, hσ4.same s5, hs, hU', hU, fun H6 p' s6 hst => ?_⟩
        rw [hσ'] at hst
        exact ⟨p', rfl, s5.trans s6, hst⟩
      · rw [if_neg cb] at hσ'
        have cb' : bindM e (spotOf σ s n) an = false := by cases q : bindM e (spotOf σ s n) an with | true => exact absurd q cb | false => rfl
        rw [cb', ← hσ']
        exact iteF ⟨p, rfl, s5, hσ4.same s5⟩
    rintro τ H5 ⟨p', rfl, s45, hst⟩
    have hi5 := hi4.same s45
    have hq5 := s45 _ _ hq4
    have hm5 := s45 _ _ hm4
    have s5 := s4.trans s45
    refine ⟨_, rfl, rfl, _, rfl, ?_⟩
    rw [ds]
    by_cases c6 : kd = "read"
    · rw [decide_eq_true c6]
      rw [if_pos c6] at kk
      refine iteT ⟨_, rfl, _, rfl, _, rfl, p', n, s, U, N, σ', rfl, hst, hn, hN, fun H6 p6 s56 hst6 => ?_⟩
      refine ⟨_, rfl, _, rfl, _, rfl, _, rfl, q, σ.it n, s, an, rfl, hi5.same s56, wf.ne, wf.le, fun ea hO => c3 (.inr ⟨ea, hO⟩), fun H7 y s67 hy => ⟨zero, fun u nu => ⟨four, fun o no => ⟨two, fun r nr => ?_⟩⟩⟩⟩
      have t2 := same_new (o := .tup []) (Same.refl H7) nu
      have t3 := same_new (o := .tup [.str "read", .ref m, y, .ref u]) t2 no
      have t4 := same_new (o := .tup [.ref p6, .ref o]) t3 nr
      have t57 := s56.trans s67
      exact kk _ r ((s5.trans t57).trans t4) ⟨p6, o, upd_same, hst6.same (s67.trans t4), ⟨m, y, u, kp nr upd_same, (t57.trans t4) _ _ hm5, hy.same t4, kp nr (kp no upd_same)⟩⟩ (fok_nil (by decide +kernel))
    rw [decide_eq_false c6]
    rw [if_neg c6] at kk
    refine iteF ⟨_, rfl, rfl, _, rfl, ?_⟩
    rw [ds]
    by_cases c7 : an = "skip"
    · rw [decide_eq_true c7]
      rw [if_pos c7] at kk
      refine iteT ⟨_, rfl, _, rfl, zero, fun u nu => ⟨four, fun o no => ⟨two, fun r nr => ?_⟩⟩⟩
      have t2 := same_new (o := .tup []) (Same.refl H5) nu
      have t3 := same_new (o := .tup [.str "skip", .ref m, .non, .ref u]) t2 no
      have t4 := same_new (o := .tup [.ref p', .ref o]) t3 nr
      exact kk _ r (s5.trans t4) ⟨p', o, upd_same, hst.same t4, ⟨m, .non, u, kp nr upd_same, t4 _ _ hm5, rfl, kp nr (kp no upd_same)⟩⟩ (fok_nil (by decide +kernel))
    rw [decide_eq_false c7]
    rw [if_neg c7] at kk
    have hw : kd = "write" := by
      have : kd ∈ KINDS := hkd
      simp only [KINDS, List.mem_cons, List.not_mem_nil, or_false] at this
      exact this.resolve_left c6
    have ev := hv hw
    subst ev
    obtain ⟨dx5, ka5, hq5', hk5⟩ := hi5
    refine iteF ⟨_, rfl, q, T.c_Item, dx5, _, _, rfl, hq5', T.cl_Item, T.na_Item_kept, rfl, _, rfl, _, rfl, _, rfl, q, T.c_Item, dx5, _, _, rfl, hq5', T.cl_Item, T.na_Item_reader, rfl, fun x dx' nx ndx ne => mk_item nx ndx fun H6 s56 hx => ⟨rfl, ?_⟩⟩
    refine ⟨_, rfl, _, rfl, _, rfl, p', x, n, { σ.it n with opn := some (s, z) }, U, N, σ', rfl, hst.same s56, hn, hN, ⟨dx', ka5, hx, hk5.same s56⟩, { ne := wf.ne, le := wf.le, ho := fun h v q => by cases q; exact hs }, fun H7 p7 s67 hst7 => ?_⟩
    refine ⟨_, rfl, zero, fun u nu => ⟨four, fun o no => ⟨two, fun r nr => ?_⟩⟩⟩
    have t2 := same_new (o := .tup []) (Same.refl H7) nu
    have t3 := same_new (o := .tup [.str "put", .ref m, .non, .ref u]) t2 no
    have t4 := same_new (o := .tup [.ref p7, .ref o]) t3 nr
    have t57 := s56.trans s67
    exact kk _ r ((s5.trans t57).trans t4) ⟨p7, o, upd_same, hst7.same t4, ⟨m, .non, u, kp nr upd_same, (t57.trans t4) _ _ hm5, rfl, kp nr (kp no upd_same)⟩⟩ (fok_nil (by decide +kernel))
end
end K11

namespace K11
open PySem L2 SI CM BK OWN MIR StX TX TL
section
variable {w : World} {K : PySem.W.Frag} {mg : Str → Option Value} {base : Heap} (T : Txt w K mg)
theorem isF_self {σ : MIR.S} {s : Int} {L : List Int} (h : IsF σ s L) : s ∈ L := (h.2 s).mpr .refl
/-- what asked gives by its word -/
theorem ask_wound {B : Bkm} {σ : MIR.S} {kd : Str} {s : Int} {n : Str} {v : Int} (h : (askM B σ kd s n v).2.word = "wound") : askM B σ kd s n v = (fallS σ (fal σ (hInt (σ.it n))), ⟨"wound", metL (entOf σ kd s n), .non, fal σ (hInt (σ.it n))⟩) := by
  rw [ask_R] at h ⊢
  generalize ansL B kd (spotOf σ s n) (entOf σ kd s n) = an at h ⊢
  unfold askR at h ⊢
  by_cases c1 : an = "wait"
  · rw [if_pos c1] at h; exact absurd h (show ("wait" : Str) ≠ "wound" from by decide +kernel)
  rw [if_neg c1] at h ⊢
  by_cases c2 : an = "wound"
  · rw [if_pos c2]
  rw [if_neg c2] at h ⊢
  by_cases c3 : an = "abort" ∨ (an = "old" ∧ oldM (σ.it n) s = [])
  · rw [if_pos c3] at h; exact absurd h (show ("abort" : Str) ≠ "wound" from by decide +kernel)
  rw [if_neg c3] at h ⊢
  by_cases c4 : kd = "read"
  · rw [if_pos c4] at h; exact absurd h (show ("read" : Str) ≠ "wound" from by decide +kernel)
  rw [if_neg c4] at h ⊢
  by_cases c5 : an = "skip"
  · rw [if_pos c5] at h; exact absurd h (show ("skip" : Str) ≠ "wound" from by decide +kernel)
  rw [if_neg c5] at h
  exact absurd h (show ("put" : Str) ≠ "wound" from by decide +kernel)
theorem wound_ans {B : Bkm} {σ : MIR.S} {kd : Str} {s : Int} {n : Str} {v : Int} (h : (askM B σ kd s n v).2.word = "wound") : ansL B kd (spotOf σ s n) (entOf σ kd s n) = "wound" := by
  rw [ask_R] at h
  generalize ansL B kd (spotOf σ s n) (entOf σ kd s n) = an at h ⊢
  unfold askR at h
  by_cases c1 : an = "wait"
  · rw [if_pos c1] at h; exact absurd h (show ("wait" : Str) ≠ "wound" from by decide +kernel)
  rw [if_neg c1] at h
  by_cases c2 : an = "wound"
  · exact c2
  rw [if_neg c2] at h
  by_cases c3 : an = "abort" ∨ (an = "old" ∧ oldM (σ.it n) s = [])
  · rw [if_pos c3] at h; exact absurd h (show ("abort" : Str) ≠ "wound" from by decide +kernel)
  rw [if_neg c3] at h
  by_cases c4 : kd = "read"
  · rw [if_pos c4] at h; exact absurd h (show ("read" : Str) ≠ "wound" from by decide +kernel)
  rw [if_neg c4] at h
  by_cases c5 : an = "skip"
  · rw [if_pos c5] at h; exact absurd h (show ("skip" : Str) ≠ "wound" from by decide +kernel)
  rw [if_neg c5] at h
  exact absurd h (show ("put" : Str) ≠ "wound" from by decide +kernel)
/-- nobody is wounded where nobody holds -/
theorem no_wound {B : Bkm} (hf : ∀ x ∈ ENT, B.f x ∈ chs x) {σ : MIR.S} {kd : Str} (hk : kd ∈ KINDS) {s : Int} {n : Str} {v : Int} (h0 : hOf (σ.it n) = none) : (askM B σ kd s n v).2.word ≠ "wound" := fun h => by
  have h1 := wound_ans h
  have h2 := no_hold hf B rfl hk (s := s) (x := (lastV (σ.it n)).1) (decide ((σ.it n).rd > s))
  rw [← h0] at h2
  have h3 : ansL B kd (spotOf σ s n) (entOf σ kd s n) ∈ (["put", "abort", "last", "old", "skip"] : List Str) := h2.1
  rw [h1] at h3
  exact absurd h3 (by decide +kernel)
theorem rel_none {L : List Int} {i : MIR.It} (h : hInt i ∈ L) : hOf (relI L i) = none := by
  unfold relI hOf
  unfold hInt at h
  cases e : i.opn with
  | none => show Option.map _ i.opn = none; rw [e]; rfl
  | some hv =>
    rw [e] at h
    show Option.map _ (if hv.1 ∈ L then { i with opn := none } else i).opn = none
    rw [if_pos h]; rfl
theorem ask_met {B : Bkm} {σ : MIR.S} {kd : Str} {s : Int} {n : Str} {v : Int} : (askM B σ kd s n v).2.met.length ≤ 1 := by
  rw [ask_R]
  have hm : (metL (entOf σ kd s n)).length ≤ 1 := by cases entOf σ kd s n with | none => exact Nat.zero_le _ | some _ => exact Nat.le_refl _
  generalize metL (entOf σ kd s n) = m at hm
  generalize ansL B kd (spotOf σ s n) (entOf σ kd s n) = an
  unfold askR
  by_cases c1 : an = "wait"
  · rw [if_pos c1]; exact hm
  rw [if_neg c1]
  by_cases c2 : an = "wound"
  · rw [if_pos c2]; exact hm
  rw [if_neg c2]
  by_cases c3 : an = "abort" ∨ (an = "old" ∧ oldM (σ.it n) s = [])
  · rw [if_pos c3]; exact hm
  rw [if_neg c3]
  by_cases c4 : kd = "read"
  · rw [if_pos c4]; exact hm
  rw [if_neg c4]
  by_cases c5 : an = "skip"
  · rw [if_pos c5]; exact hm
  rw [if_neg c5]; exact hm
def Srt (U : List Int) (o : Out) : Prop := (∀ t ∈ o.fallen, t ∈ U) ∧ o.fallen.Pairwise (· < ·)
theorem FOk.srt {U : List Int} {σ : MIR.S} {s h : Int} {o : Out} (f : FOk U σ s h o) : Srt U o := ⟨f.1, by
  by_cases c : o.word = "wound"
  · exact (f.2.2 c).1
  · rcases f.2.1 c with e | e
    · rw [e]; exact List.Pairwise.nil
    · exact e.1⟩
def spReq (CB CS CI : Addr) : Sp := fun vs H Q _ => ∃ (b dxb d : Addr) (f : Str → Str) (e : Str) (k : Nat) (p st : Addr) (v : V) (z : Int) (kd : Str) (s : Int) (n : Str) (U : List Int) (N : List Str) (σ : MIR.S), vs = [.ref b, .ref p, .ref st, v] ∧
  Bk CB H b dxb d f e (k : Int) ∧ (∀ x ∈ ENT, f x ∈ chs x) ∧ ReqAt H st kd s n ∧ kd ∈ KINDS ∧ (kd = "write" → v = .int z) ∧ StAt CS CI U N H p σ ∧ s ∈ U ∧ n ∈ N ∧ U.length ≤ 400 ∧ N.length ≤ 400 ∧
  ∀ (H' : Hp) (q : Addr), Same H H' → PairAt CS CI U N H' q (reqM ⟨f, e, k⟩ σ kd s n z) → Srt U (reqM ⟨f, e, k⟩ σ kd s n z).2 → Q (.ref q) H'
theorem ok_requested : FnOk PP w K mg base CX0 9 T.f_requested T.d_requested ["book", "state", "step", "value"] (spReq T.c_Book T.c_State T.c_Item) := by
  refine T.F_requested.ok sc_requested (fun vs H Q E h => ?_) (fun cdv A outer s H vs Q E hr h => ?_)
  · obtain ⟨b, dxb, d, f, e, k, p, st, v, z, kd, s, n, U, N, σ, rfl, _⟩ := h
    rfl
  · obtain ⟨b, dxb, d, f, e, k, p, st, v, z, kd, s, n, U, N, σ, rfl, B, hf, hst, hkd, hv, hσ, hs, hn, hU, hN, kk⟩ := h
    refine ⟨_, pss_cons (ps_asg (pe_call (ok_asked T) (hr.mono (by decide)) (by rfl) T.g_asked T.F_asked.kp (b_asked T) .nil pass0 (pa_cons (pv 0) (pa_cons (pv 1) (pa_cons (pv 2) (pa_cons (pv 3) pa_nil))))) (pg_tup rfl (pgs_cons (pg_name (i := 4) sc_requested.nd rfl (.inl rfl)) (pgs_cons (pg_name (i := 5) sc_requested.nd rfl (.inl rfl)) pgs_nil))))
 (pss_cons (ps_asg (pv 5) (pg_tup rfl (pgs_cons (pg_name (i := 6) sc_requested.nd rfl (.inl rfl)) (pgs_cons (pg_name (i := 7) sc_requested.nd rfl (.inl rfl)) (pgs_cons (pg_name (i := 8) sc_requested.nd rfl (.inl rfl)) (pgs_cons (pg_name (i := 9) sc_requested.nd rfl (.inl rfl)) pgs_nil))))))
 (pss_cons (ps_if (pt_cmpR op_ne (pv 6) pe_str (nomark _))
 (pss_one (ps_ret (pe_tup (pa_cons (pv 4) (pa_cons (pv 5) pa_nil)))))
 pss_nil)
 (pss_cons (ps_if (pt_cmpR op_in_seq (pe_ix ix_tup (pv 2) pe_int (fun _ _ => rfl)) (pv 9) rfl)
 (pss_one (ps_ret (pe_tup (pa_cons (pv 4) (pa_cons (pe_tup (pa_cons pe_str (pa_cons (pv 7) (pa_cons pe_non (pa_cons (pv 9) pa_nil))))) pa_nil)))))
 pss_nil)
 (pss_cons (ps_asg (pe_call (ok_asked T) (hr.mono (by decide)) (by rfl) T.g_asked T.F_asked.kp (b_asked T) .nil pass0 (pa_cons (pv 0) (pa_cons (pv 4) (pa_cons (pv 2) (pa_cons (pv 3) pa_nil))))) (pg_tup rfl (pgs_cons (pg_name (i := 10) sc_requested.nd rfl (.inl rfl)) (pgs_cons (pg_tup rfl (pgs_cons (pg_name (i := 6) sc_requested.nd rfl (.inl rfl)) (pgs_cons (pg_name (i := 11) sc_requested.nd rfl (.inl rfl)) (pgs_cons (pg_name (i := 12) sc_requested.nd rfl (.inl rfl)) (pgs_cons (pg_name (i := 13) sc_requested.nd rfl (.inl rfl)) pgs_nil))))) pgs_nil))))
 (pss_one (ps_ret (pe_tup (pa_cons (pv 10) (pa_cons (pe_tup (pa_cons (pv 6) (pa_cons (pe_tup (pa_star (pv 7) (pa_star (pv 11) pa_nil))) (pa_cons (pv 12) (pa_cons (pe_call (ok_ascending T) (hr.mono (by decide)) (by rfl) T.g_ascending T.F_ascending.kp (b_ascending T) .nil pass0 (pa_cons (pe_lst (pa_star (pv 9) (pa_star (pv 13) pa_nil))) pa_nil)) pa_nil))))) pa_nil))))))))), ?_⟩
    have two : 2 ≤ sizeLine := by decide
    have four : 4 ≤ sizeLine := by decide
    refine ⟨_, rfl, _, rfl, _, rfl, _, rfl, b, dxb, d, f, e, k, p, st, v, z, kd, s, n, U, N, σ, rfl, B, hf, hst, hkd, hv, hσ, hs, hn, hU, hN, fun H1 q1 s1 hp1 hf1 => ?_⟩
    have wnd := @ask_wound ⟨f, e, k⟩ σ kd s n z
    have am := fun σ' => @ask_met ⟨f, e, k⟩ σ' kd s n z
    have am1 := am σ
    have nwn := fun σ' h0 => @no_wound ⟨f, e, k⟩ hf σ' kd hkd s n z h0
    have rdef : reqM ⟨f, e, k⟩ σ kd s n z = (if (askM ⟨f, e, k⟩ σ kd s n z).2.word ≠ "wound" then askM ⟨f, e, k⟩ σ kd s n z else if s ∈ (askM ⟨f, e, k⟩ σ kd s n z).2.fallen then ((askM ⟨f, e, k⟩ σ kd s n z).1, { (askM ⟨f, e, k⟩ σ kd s n z).2 with word := "abort", val := .non }) else ((askM ⟨f, e, k⟩ (askM ⟨f, e, k⟩ σ kd s n z).1 kd s n z).1, ⟨(askM ⟨f, e, k⟩ (askM ⟨f, e, k⟩ σ kd s n z).1 kd s n z).2.word, (askM ⟨f, e, k⟩ σ kd s n z).2.met ++ (askM ⟨f, e, k⟩ (askM ⟨f, e, k⟩ σ kd s n z).1 kd s n z).2.met, (askM ⟨f, e, k⟩ (askM ⟨f, e, k⟩ σ kd s n z).1 kd s n z).2.val, asc ((askM ⟨f, e, k⟩ σ kd s n z).2.fallen ++ (askM ⟨f, e, k⟩ (askM ⟨f, e, k⟩ σ kd s n z).1 kd s n z).2.fallen)⟩)) := rfl
    rw [rdef] at kk
    generalize askM ⟨f, e, k⟩ σ kd s n z = r at kk hp1 hf1 wnd am1
    obtain ⟨a1, b1, hq1, hst1, m1, v1, f1, hb1, hm1, hv1, hff1⟩ := hp1
    refine ⟨q1, _, rfl, SqT.of hq1, rfl, _, _, rfl, _, _, rfl, rfl, ?_⟩
    refine ⟨_, rfl, b1, _, rfl, SqT.of hb1, rfl, _, _, rfl, _, _, rfl, _, _, rfl, _, _, rfl, rfl, ?_⟩
    refine ⟨_, rfl, rfl, _, rfl, ?_⟩
    rw [ds]
    by_cases c1 : r.2.word = "wound"
    case neg =>
      rw [decide_eq_false c1]
      rw [if_pos c1] at kk
      refine iteT ⟨_, rfl, _, rfl, two, fun o no => ?_⟩
      have t1 := same_new (o := .tup [.ref a1, .ref b1]) (Same.refl H1) no
      exact kk _ o (s1.trans t1) ⟨a1, b1, upd_same, hst1.same t1, ⟨m1, v1, f1, t1 _ _ hb1, t1 _ _ hm1, hv1.same t1, t1 _ _ hff1⟩⟩ hf1.srt
    rw [decide_eq_true c1]
    rw [if_neg (fun z => z c1)] at kk
    have hst : H st = some (.tup [.str kd, .int s, .str n]) := hst
    refine iteF ⟨_, rfl, st, _, _, .int s, rfl, rfl, SqT.of (s1 _ _ hst), rfl, _, rfl, f1, _, rfl, .inr (SqT.of hff1), rfl, flat_ints _, _, rfl, ?_⟩
    rw [inV_int]
    by_cases c2 : s ∈ r.2.fallen
    · rw [decide_eq_true c2]
      rw [if_pos c2] at kk
      refine iteT ⟨_, rfl, _, rfl, _, rfl, four, fun o no => ⟨two, fun u nu => ?_⟩⟩
      have t1 := same_new (o := .tup [.str "abort", .ref m1, .non, .ref f1]) (Same.refl H1) no
      have t2 := same_new (o := .tup [.ref a1, .ref o]) t1 nu
      exact kk _ u (s1.trans t2) ⟨a1, o, upd_same, hst1.same t2, ⟨m1, .non, f1, kp nu upd_same, t2 _ _ hm1, rfl, t2 _ _ hff1⟩⟩ hf1.srt
    rw [decide_eq_false c2]
    rw [if_neg c2] at kk
    have er := wnd c1
    have hF : IsF σ (hInt (σ.it n)) r.2.fallen := hf1.2.2 c1
    have ef : r.2.fallen = fal σ (hInt (σ.it n)) := by rw [er]
    have e1 : r.1 = fallS σ r.2.fallen := by rw [er]
    have h0 : hOf (r.1.it n) = none := by rw [e1]; exact rel_none (isF_self hF)
    have nw := nwn r.1 h0
    refine iteF ⟨_, rfl, _, rfl, _, rfl, _, rfl, b, dxb, d, f, e, k, a1, st, v, z, kd, s, n, U, N, r.1, rfl, B.same s1, hf, s1 _ _ hst, hkd, hv, hst1, hs, hn, hU, hN, fun H2 q2 s2 hp2 hf2 => ?_⟩
    have am2 := am r.1
    generalize askM ⟨f, e, k⟩ r.1 kd s n z = t at kk hp2 hf2 nw am2
    obtain ⟨a2, b2, hq2, hst2, m2, v2, f2, hb2, hm2, hv2, hff2⟩ := hp2
    refine ⟨q2, _, rfl, SqT.of hq2, rfl, _, _, rfl, _, _, rfl, ⟨b2, _, rfl, SqT.of hb2, rfl, _, _, rfl, _, _, rfl, _, _, rfl, _, _, rfl, rfl, rfl, ?_⟩⟩
    have ndd : (r.2.fallen ++ t.2.fallen).Nodup := by
      refine List.nodup_append.mpr ⟨strict_nd hF.1, strict_nd hf2.srt.2, fun x hx y hy exy => ?_⟩
      subst exy
      rcases hf2.2.1 nw with e0 | e0
      · rw [e0] at hy; cases hy
      · have hr := (e0.2 x).mp hy
        cases hr with
        | refl => exact c2 hx
        | step _ _ ho =>
          rw [e1] at ho
          have : (fallS σ r.2.fallen).ov x = some false := if_pos hx
          rw [this] at ho; cases ho
    have l1 : r.2.fallen.length ≤ 400 := by have := nd_le (strict_nd hF.1) hf1.1; omega
    have l2 : t.2.fallen.length ≤ 400 := by have := nd_le (strict_nd hf2.srt.2) hf2.1; omega
    have hm1' := s2 _ _ hm1
    have hf1' := s2 _ _ hff1
    refine ⟨_, rfl, _, rfl, _, rfl, m1, _, rfl, .inl (SqT.of hm1'), _, rfl, m2, _, rfl, .inl (SqT.of hm2), by rw [List.append_nil, List.length_append, List.length_map, List.length_map]; exact Nat.le_trans (show _ ≤ 2 by omega) two, fun u nu => ?_⟩
    rw [List.append_nil, ← List.map_append]
    have t1 := same_new (o := .tup ((r.2.met ++ t.2.met).map V.str)) (Same.refl H2) nu
    have hu : (upd H2 u (.tup ((r.2.met ++ t.2.met).map V.str))) u = some (.tup ((r.2.met ++ t.2.met).map V.str)) := upd_same
    generalize upd H2 u (.tup ((r.2.met ++ t.2.met).map V.str)) = H3 at t1 hu
    refine ⟨_, rfl, _, rfl, f1, _, rfl, .inl (SqT.of (t1 _ _ hf1')), _, rfl, f2, _, rfl, .inl (SqT.of (t1 _ _ hff2)), by rw [List.append_nil, List.length_append, List.length_map, List.length_map]; exact Nat.le_of_lt (small1000 (by omega)), fun L nL => ?_⟩
    rw [List.append_nil, ← List.map_append]
    refine ⟨L, r.2.fallen ++ t.2.fallen, rfl, SqL.of upd_same, by rw [List.length_append]; omega, fun H4 g ms s4 ng pm ps hg => ⟨four, fun o no => ⟨two, fun y ny => ?_⟩⟩⟩
    have ea : asc (r.2.fallen ++ t.2.fallen) = ms := asc_eq (perm_asc pm ps ndd)
    rw [ea] at kk
    have t2 := (same_new (o := .lst ((r.2.fallen ++ t.2.fallen).map V.int)) t1 nL).trans s4
    have t3 := same_new (o := .tup [.str t.2.word, .ref u, v2, .ref g]) (Same.refl H4) no
    have t4 := same_new (o := .tup [.ref a2, .ref o]) t3 ny
    have t24 := t2.trans t4
    have t34 : Same H3 _ := ((same_new (o := .lst ((r.2.fallen ++ t.2.fallen).map V.int)) (Same.refl H3) nL).trans s4).trans t4
    refine kk _ y ((s1.trans s2).trans t24) ⟨a2, o, upd_same, hst2.same t24, ⟨u, v2, g, kp ny upd_same, t34 _ _ hu, hv2.same t24, t4 _ _ hg⟩⟩ ⟨fun x hx => ?_, (perm_asc pm ps ndd).1⟩
    rcases List.mem_append.mp (pm.mem_iff.mp hx) with q | q
    · exact hf1.1 x q
    · exact hf2.1 x q
end
end K11

namespace K11
open PySem L2 SI CM BK OWN MIR StX TX TL
section
variable {w : World} {K : PySem.W.Frag} {mg : Str → Option Value} {base : Heap} (T : Txt w K mg)
def StpAt (H : Hp) (st : Addr) : Stp → Prop
  | .req k s n => H st = some (.tup [.str k, .int s, .str n])
  | .com s => H st = some (.tup [.str "commit", .int s])
  | .abo s => H st = some (.tup [.str "abort", .int s])
theorem StpAt.same {H H' : Hp} {st : Addr} (s : Same H H') : ∀ {x : Stp}, StpAt H st x → StpAt H' st x
  | .req _ _ _, h => s _ _ h
  | .com _, h => s _ _ h
  | .abo _, h => s _ _ h
def StpOk (U : List Int) (N : List Str) (v : V) (z : Int) : Stp → Prop
  | .req k s n => s ∈ U ∧ n ∈ N ∧ k ∈ KINDS ∧ (k = "write" → v = .int z)
  | .com s => s ∈ U
  | .abo s => s ∈ U
theorem StpOk.who {U : List Int} {N : List Str} {v : V} {z : Int} : ∀ {x : Stp}, StpOk U N v z x → x.who ∈ U
  | .req _ _ _, h => h.1
  | .com _, h => h
  | .abo _, h => h
def wordOf : Stp → Str
  | .req k _ _ => k
  | .com _ => "commit"
  | .abo _ => "abort"
noncomputable def takeN (B : Bkm) (σ : MIR.S) (x : Stp) (z : Int) : MIR.S × Out := match x with
  | .com s => if waitsOf σ s ≠ [] then (σ, ⟨"wait", [], .tup (asc (waitsOf σ s)), []⟩) else (commS σ s B.keep, ⟨"commit", [], .non, []⟩)
  | .abo s => (fallS σ (fal σ s), ⟨"abort", [], .non, fal σ s⟩)
  | .req k s n => reqM B σ k s n z
def spTaken (CB CS CI : Addr) : Sp := fun vs H Q _ => ∃ (b dxb d : Addr) (f : Str → Str) (e : Str) (k : Nat) (p st : Addr) (v : V) (z : Int) (x : Stp) (U : List Int) (N : List Str) (σ : MIR.S), vs = [.ref b, .ref p, .ref st, v] ∧
  Bk CB H b dxb d f e (k : Int) ∧ (∀ x ∈ ENT, f x ∈ chs x) ∧ 1 ≤ k ∧ k ≤ 20 ∧ StpAt H st x ∧ StpOk U N v z x ∧ StAt CS CI U N H p σ ∧ U.length ≤ 400 ∧ N.length ≤ 400 ∧
  ∀ (H' : Hp) (q : Addr), Same H H' → PairAt CS CI U N H' q (takeM ⟨f, e, k⟩ σ x z) → Srt U (takeM ⟨f, e, k⟩ σ x z).2 → Q (.ref q) H'
theorem ok_taken : FnOk PP w K mg base CX0 10 T.f_taken T.d_taken ["book", "state", "step", "value"] (spTaken T.c_Book T.c_State T.c_Item) := by
  refine T.F_taken.ok sc_taken (fun vs H Q E h => ?_) (fun cdv A outer s H vs Q E hr h => ?_)
  · obtain ⟨b, dxb, d, f, e, k, p, st, v, z, x, U, N, σ, rfl, _⟩ := h
    rfl
  · obtain ⟨b, dxb, d, f, e, k, p, st, v, z, x, U, N, σ, rfl, B, hf, k1, k20, hst, hx, hσ, hU, hN, kk⟩ := h
    refine ⟨_, C8.pss_cut (ps_asg (pe_slice sl_tupA (pv 2) po_none (po_some pe_int)) (pg_tup rfl (pgs_cons (pg_name (i := 4) sc_taken.nd rfl (.inl rfl)) (pgs_cons (pg_name (i := 5) sc_taken.nd rfl (.inl rfl)) pgs_nil))))
 (pss_cons (ps_if (pt_cmp (pc_din (hu_of hr) (pv 5) (pe_fld (pv 1) rfl)))
 (pss_one (ps_ret (pe_tup (pa_cons (pv 1) (pa_cons (pe_tup (pa_cons pe_str (pa_cons (pe_tup pa_nil) (pa_cons pe_non (pa_cons (pe_tup pa_nil) pa_nil))))) pa_nil)))))
 pss_nil)
 (pss_cons (ps_if (pt_cmpR op_eq (pv 4) pe_str (nomark _))
 (pss_one (ps_ret (pe_call (ok_committed T) (hr.mono (by decide)) (by rfl) T.g_committed T.F_committed.kp (b_committed T) .nil pass0 (pa_cons (pv 0) (pa_cons (pv 1) (pa_cons (pv 5) pa_nil))))))
 pss_nil)
 (pss_cons (ps_if (pt_cmpR op_eq (pv 4) pe_str (nomark _))
 (pss_one (ps_ret (pe_call (ok_aborted T) (hr.mono (by decide)) (by rfl) T.g_aborted T.F_aborted.kp (b_aborted T) .nil pass0 (pa_cons (pv 1) (pa_cons (pv 5) (pa_cons (pe_tup pa_nil) pa_nil))))))
 pss_nil)
 (pss_one (ps_ret (pe_call (ok_requested T) (hr.mono (by decide)) (by rfl) T.g_requested T.F_requested.kp (b_requested T) .nil pass0 (pa_cons (pv 0) (pa_cons (pv 1) (pa_cons (pv 2) (pa_cons (pv 3) pa_nil)))))))))), ?_⟩
    have zero : 0 ≤ sizeLine := by decide
    have two : 2 ≤ sizeLine := by decide
    have four : 4 ≤ sizeLine := by decide
    refine ⟨fun τ H' => τ = [some (.ref b), some (.ref p), some (.ref st), some v, some (.str (wordOf x)), some (.int x.who)] ∧ Same H H', ?_, ?_⟩
    · cases x with
      | req kd s n =>
        have hst : H st = some (.tup [.str kd, .int s, .str n]) := hst
        refine ⟨_, rfl, _, rfl, st, _, rfl, SqT.of hst, fun hw => ?_, fun hw y ny => ?_⟩
        · have h2 : HT.sIx 3 3 (some ((2 : Nat) : Int)) = 3 := hw.2
          rw [HT.sIx_nat] at h2
          exact absurd h2 (by decide)
        · exact ⟨y, [.str kd, .int s], rfl, SqT.of upd_same, rfl, _, _, rfl, _, _, rfl, rfl, rfl, same_new (Same.refl H) ny⟩
      | com s =>
        have hst : H st = some (.tup [.str "commit", .int s]) := hst
        refine ⟨_, rfl, _, rfl, st, _, rfl, SqT.of hst, fun hw => ?_, fun hw y ny => ?_⟩
        · exact ⟨st, [.str "commit", .int s], rfl, SqT.of hst, rfl, _, _, rfl, _, _, rfl, rfl, rfl, Same.refl H⟩
        · exact absurd ⟨HT.sIx_none 2 0, HT.sIx_nat 2 2 2⟩ hw
      | abo s =>
        have hst : H st = some (.tup [.str "abort", .int s]) := hst
        refine ⟨_, rfl, _, rfl, st, _, rfl, SqT.of hst, fun hw => ?_, fun hw y ny => ?_⟩
        · exact ⟨st, [.str "abort", .int s], rfl, SqT.of hst, rfl, _, _, rfl, _, _, rfl, rfl, rfl, Same.refl H⟩
        · exact absurd ⟨HT.sIx_none 2 0, HT.sIx_nat 2 2 2⟩ hw
    rintro τ H1 ⟨rfl, s1⟩
    have hσ1 := hσ.same s1
    have B1 := B.same s1
    have hst1 := hst.same s1
    obtain ⟨dx, dsx, dv, db, hp, n1, n2, n3, D1, D2, D3⟩ := hσ1.ex
    obtain ⟨ov, hov, ond, hO⟩ := D2.ex
    have g := DGet.k (k := Sum.inl x.who) hov
    have ho := hO (.inl x.who)
    refine ⟨_, rfl, _, rfl, p, T.c_State, dx, _, _, rfl, hp, T.cl_State, T.na_State_over, rfl, dv, _, rfl, g, ?_⟩
    cases e0 : valV ov (Sum.inl x.who) with
    | some y =>
      rw [e0] at ho
      obtain ⟨bb, _, _, eb⟩ := ho
      have er : takeM ⟨f, e, k⟩ σ x z = (σ, ⟨"void", [], .non, []⟩) := if_pos (by rw [eb]; rfl)
      rw [er] at kk
      refine ⟨_, rfl, iteT ⟨_, rfl, zero, fun u nu => ⟨zero, fun v nv => ⟨four, fun o no => ⟨two, fun r nr => ?_⟩⟩⟩⟩⟩
      have t1 := same_new (o := .tup []) (Same.refl H1) nu
      have t2 := same_new (o := .tup []) t1 nv
      have t3 := same_new (o := .tup [.str "void", .ref u, .non, .ref v]) t2 no
      have t4 := same_new (o := .tup [.ref p, .ref o]) t3 nr
      exact kk _ r (s1.trans t4) ⟨p, o, upd_same, hσ1.same t4, ⟨u, .non, v, kp nr upd_same, kp nr (kp no (kp nv upd_same)), rfl, kp nr (kp no upd_same)⟩⟩ ⟨fun t h => (by cases h), List.Pairwise.nil⟩
    | none =>
      rw [e0] at ho
      have ho : σ.ov x.who = none := ho
      have er : takeM ⟨f, e, k⟩ σ x z = takeN ⟨f, e, k⟩ σ x z := if_neg (by rw [ho]; exact Bool.false_ne_true)
      rw [er] at kk
      refine ⟨_, rfl, iteF ⟨_, rfl, rfl, _, rfl, ?_⟩⟩
      rw [ds]
      cases x with
      | com s =>
        rw [decide_eq_true (show wordOf (.com s) = "commit" from rfl)]
        have hs : s ∈ U := hx
        refine iteT ⟨_, rfl, _, rfl, _, rfl, b, dxb, d, f, e, k, p, s, U, N, σ, rfl, B1, k1, k20, hσ1, hs, hU, hN, fun H2 q s2 hq => kk H2 q (s1.trans s2) hq ?_⟩
        show Srt U (comM σ s k).2
        unfold comM
        split <;> exact ⟨fun t h => (by cases h), List.Pairwise.nil⟩
      | abo s =>
        rw [decide_eq_false (show ¬ wordOf (.abo s) = "commit" from (by decide +kernel : ¬ ("abort" : Str) = "commit"))]
        refine iteF ⟨_, rfl, rfl, _, rfl, ?_⟩
        rw [ds, decide_eq_true (show wordOf (.abo s) = "abort" from rfl)]
        have hs : s ∈ U := hx
        refine iteT ⟨_, rfl, _, rfl, zero, fun u nu => ?_⟩
        have t1 := same_new (o := .tup []) (Same.refl H1) nu
        exact ⟨p, u, s, [], U, N, σ, rfl, hσ1.same t1, hs, hU, hN, upd_same, fun H2 q s2 hq hF => kk H2 q (s1.trans (t1.trans s2)) hq ⟨hF.1, hF.2.1⟩⟩
      | req kd s n =>
        obtain ⟨hs, hn, hk, hv⟩ := hx
        have w1 : ¬ wordOf (.req kd s n) = "commit" := by
          have : ∀ k ∈ KINDS, ¬ k = "commit" := by decide +kernel
          exact this kd hk
        have w2 : ¬ wordOf (.req kd s n) = "abort" := by
          have : ∀ k ∈ KINDS, ¬ k = "abort" := by decide +kernel
          exact this kd hk
        rw [decide_eq_false w1]
        refine iteF ⟨_, rfl, rfl, _, rfl, ?_⟩
        rw [ds, decide_eq_false w2]
        exact iteF ⟨_, rfl, _, rfl, _, rfl, _, rfl, b, dxb, d, f, e, k, p, st, v, z, kd, s, n, U, N, σ, rfl, B1, hf, hst1, hk, hv, hσ1, hs, hn, hU, hN, fun H2 q s2 hq hF => kk H2 q (s1.trans s2) hq hF⟩
end
end K11

/-! for i, x in enumerate(xs, start=c). -/
namespace EN
open PySem PySem.Spec PyProof.Rows L2
/-- the list at a, each item in a new pair behind a count from c on -/
def IteC (K : PySem.W.Frag) (a : Addr) (c : Int) : L2.It where
  go := fun i H => ∃ (xs : List V) (x : V), SqL K H a xs ∧ xs[i]? = some x
  yld := fun i H v H' => ∃ T x, v = .ref T ∧ H T = none ∧ H' = upd H T (.tup [.int (c + (i : Nat)), x]) ∧ ∀ xs, SqL K H a xs → xs[i]? = some x
  stop := fun i H => ∃ xs : List V, SqL K H a xs ∧ xs.length = i
theorem turn_enumC {P : Program} {w : World} {K : PySem.W.Frag} {elts : List Expr} {kk : Nat} {tpos : Pos} (a e it : Addr) (c : Int) :
    Turn P w K (.Tuple elts kk tpos) (IteC K a c) [e, it] e (fun i h => (∃ old, IsEnum h e it (c + (i : Nat)) old) ∧ h.IsListIter it a i ∧ e ≠ it) where
  mem := List.mem_cons_self ..
  obj := fun i h st b hb => by
    obtain ⟨⟨old, he⟩, ⟨o, ho, hc, hd⟩, _⟩ := st
    rcases List.mem_cons.mp hb with z | z
    · rw [z]; exact ⟨_, he, fun v q => nomatch q⟩
    · rw [List.mem_singleton.mp z]; exact ⟨o, ho, fun v q => by rw [hd] at q; cases q⟩
  keep := fun i h h' ⟨⟨old, he⟩, hi, hne⟩ k => ⟨⟨old, k e (by simp) _ he⟩, hi.at fun o q => k it (by simp) o q, hne⟩
  item := by
    rintro X rfl rfl rfl hcalm i pins s σ H E I hf ⟨⟨old, he⟩, hit, hne⟩ ⟨xs, x, hq, hx⟩
    obtain ⟨its, rv, p, hz⟩ := I.list hq
    obtain ⟨u, hu, ru⟩ := rv.get hx
    have ne1 : a ≠ it := fun z => by
      obtain ⟨o1, g1, c1, _⟩ := hit
      obtain ⟨o2, g2, c2, _⟩ := p.isList
      rw [z, g1] at g2
      cases g2
      rw [c1] at c2
      injection c2 with c2
      exact absurd c2 (by decide)
    have ne2 : e ≠ a := fun z => by
      obtain ⟨o2, g2, c2, _⟩ := p.isList
      have h2 : s.heap.get? e = some _ := he
      rw [z, g2] at h2
      have h3 := Option.some.inj h2
      rw [h3] at c2
      injection c2 with c2
      exact absurd c2 (by decide)
    have hel : e < s.heap.objs.size := Heap.lt_size he
    have hil : it < s.heap.objs.size := by obtain ⟨_, q, _⟩ := hit; exact Heap.lt_size q
    have hlen : i < its.toArray.size := by
      have := (List.getElem?_eq_some_iff.mp hu).1
      simpa using this
    refine wpAny_pyNext_enum_itemC (Draws.list (A := X.A.in1) (I.ok.hd hcalm) it a ne1 its.toArray) he ⟨hit, p.isList⟩ hlen hne (by simp [hne, ne2]) fun y h' tk hP ho hs' hT hsz hk => ?_
    have hy : y = u := by
      have z : its[i]? = some y := by simpa using hP
      rw [hu] at z
      exact (Option.some.inj z).symm
    subst hy
    refine ⟨_, rfl, wpAny_letOwnedTupleGo_enum (s := { s with heap := h', toks := tk + 1 }) ho fun h'' he' sb => ?_⟩
    have hT2 : h''.get? s.heap.objs.size = some { cls := .type "tuple", data := .seq #[.int (c + (i : Nat)) tk, y] } := (sb.2 _ (Nat.ne_of_gt hel)).trans hT
    have new : ObjOk X.prog X.w (upd H s.heap.objs.size (.tup [.int (c + (i : Nat)), x])) h'' s.heap.objs.size (.tup [.int (c + (i : Nat)), x]) :=
      ⟨show 2 ≤ sizeLine by decide, [.int (c + (i : Nat)) tk, y], .cons ⟨_, rfl⟩ (.cons ru .nil), ⟨_, hT2, rfl, _, rfl⟩⟩
    have I1 : Inv X pins σ (upd H s.heap.objs.size (.tup [.int (c + (i : Nat)), x])) { s with heap := h'', toks := tk + 1 } :=
      I.turnedNew (ch := [e, it]) (fun b ob hb q => (sb.2 b (fun z => hb (by simp [z]))).trans (hk b ob (fun z => hb (by simp [z])) (fun z => hb (by simp [z])) q)) hf (Nat.le_refl _) new
    refine ⟨.ref s.heap.objs.size, _, I1, rfl, ⟨_, x, rfl, I.hok.fresh (Nat.le_refl _), rfl, fun ys hy => by rw [I.list_inj hy hq]; exact hx⟩, ⟨⟨y, ?_⟩, hs'.1.at fun o q => (sb.2 it (Ne.symm hne)).trans q, hne⟩, fun b hb => ?_⟩
    · have e1 : c + ((i + 1 : Nat) : Int) = c + (i : Nat) + 1 := by omega
      rw [e1]; exact he'
    · have hb' : b < s.heap.objs.size := by
        rcases List.mem_cons.mp hb with z | z
        · rw [z]; exact hel
        · rw [List.mem_singleton.mp z]; exact hil
      rw [upd_ne (Nat.ne_of_lt hb')]
      exact (hf b hb).1
  done := by
    rintro X rfl rfl rfl hcalm i pins s σ H E I hf ⟨⟨old, he⟩, hit, hne⟩ ⟨xs, hq, hx⟩
    obtain ⟨its, rv, p, hz⟩ := I.list hq
    obtain ⟨f0, f1, f2, f3, f4, f5⟩ := hf it (by simp)
    have hl := rv.length
    have ne1 : a ≠ it := fun z => by
      obtain ⟨o1, g1, c1, _⟩ := hit
      obtain ⟨o2, g2, c2, _⟩ := p.isList
      rw [z, g1] at g2
      cases g2
      rw [c1] at c2
      injection c2 with c2
      exact absurd c2 (by decide)
    have hn : i = its.toArray.size := by simp; omega
    exact wpAny_pyNext_enum_endD (Draws.list (A := X.A.in1) (I.ok.hd hcalm) it a ne1 its.toArray) he ⟨hn ▸ hit, p.isList⟩ fun h' eb => ⟨rfl, I.turned (t' := s.toks) (fun b o hb q => eb b o hb q) f0 f1 f3 f4 f5⟩
  self := fun A i s Q E ⟨⟨_, he⟩, _⟩ h => wpAny_pyIter_enum he h
theorem type_kw {M : Model} {A : Around} {E : Value → Shared → Prop} {s : Shared} {env : Env} {pos : Pos} {T : String} {e : Expr} {kws : List Keyword} {Q : Value → Shared → Prop}
    (h : wpAny M A (spliced (backTo pos (starEach [e] env))) (fun vs s1 => wpAny M A (evalAll ((backToKw pos (keywordEach kws env)).map (·.2))) (fun ks s2 => wpAny M A (call (.type T) vs (((backToKw pos (keywordEach kws env)).filterMap (·.1)).zip ks)) Q E s2) E s1) E s)
    (he : backTo pos (starEach [e] env) = (false, eval e env) :: backTo pos (starEach [] env)) (hp : (backTo pos (starEach [e] env)).any (·.1) = false) (ha : (backToKw pos (keywordEach kws env)).all (·.1.isSome) = true) (hn : (backToKw pos (keywordEach kws env)).any (·.1.isNone) = false) :
    wpAny M A (callWith pos (.type T) [] (backTo pos (starEach [e] env)) (backToKw pos (keywordEach kws env))) Q E s := by
  have h2 : wpAny M A (evalArgs (.type T) true (backTo pos (starEach [e] env)) (backToKw pos (keywordEach kws env))) (fun a s1 => wpAny M A (call (.type T) ([] ++ a.pos) a.kw) Q E s1) E s := by
    rw [he] at h ⊢
    exact evalArgs_kwB ha h
  unfold callWith
  refine wpAny_bind (wpAny_holding (wpAny_mono h2 (fun a s1 h1 => wpAny_bind (wpAny_standAt ?_)) fun _ _ x => x))
  simp only [hp, hn, Bool.or_false]
  exact wpAny_bind (wpAny_pure (wpAny_bind (wpAny_mono h1 (fun r s2 hr => wpAny_bind (wpAny_holding (wpAny_point (wpAny_pure hr)))) fun _ _ x => x)))
section
variable {X : Cx}
def iEnumK (K : PySem.W.Frag) (t tk : TA) : TI := fun σ H R => t σ H fun vs H1 => tk σ H1 fun zs H2 => ∃ a xs c, vs = [.ref a] ∧ zs = [.int c] ∧ 0 ≤ c ∧ c < 2 ^ 62 ∧ SqL K H2 a xs ∧ R (IteC K a c) H2
theorem pi_enumK {e : Expr} {kws : List Keyword} {t tk : TA} {p pos tpos : Pos} {elts : List Expr} {kk : Nat} (hg : Gl X "enumerate") (hm : X.mg "enumerate" = none) (ha : PA X [e] t) (hk : PK X kws tk)
    (he : backTo pos (starEach [e] X.env) = (false, eval e X.env) :: backTo pos (starEach [] X.env) := by rfl) (hpl : (backTo pos (starEach [e] X.env)).any (·.1) = false := by rfl)
    (hall : (backToKw pos (keywordEach kws X.env)).all (·.1.isSome) = true := by rfl) (hnone : (backToKw pos (keywordEach kws X.env)).any (·.1.isNone) = false := by rfl) (hks : (backToKw pos (keywordEach kws X.env)).filterMap (·.1) = [Str.ofString "start"] := by rfl) :
    PI X (.Tuple elts kk tpos) (.Call (.Name "enumerate" p) [e] kws pos) (iEnumK X.K t tk) := by
  refine ⟨fun pins s σ H R I h => ?_⟩
  refine wpAny_Call_Name_kw (ld_blt I hg hm boot_enumerate ?_ (by decide) (by decide))
  refine type_kw (thn (ha.run pos pins s σ H _ I h) fun us s1 ⟨vs, H1, I1, r1, q1⟩ => thn (hk.run pos pins s1 σ H1 _ I1 q1) fun ws s2 ⟨zs, H2, I2, r2, a, xs, c, e1, e2, c0, c1, hq, q⟩ => ?_) he hpl hall hnone
  rw [hks]
  subst e1 e2
  obtain rfl := Vals.ref1 r1
  obtain ⟨w1, rfl, t1, rfl⟩ := vals1 r2
  obtain ⟨its, rv, p', hz⟩ := I2.list hq
  have fin : ∀ h', IsEnum h' (s2.heap.objs.size + 1) s2.heap.objs.size c .none → h'.IsListIter s2.heap.objs.size a 0 → (∀ b o, s2.heap.get? b = some o → h'.get? b = some o) → PIE X pins σ (.Tuple elts kk tpos) R (.ref (s2.heap.objs.size + 1)) { s2 with heap := h' } := fun h' hE hit hkk => by
    have I3 : Inv X pins σ H2 { s2 with heap := h' } := I2.kept (t' := s2.toks) hkk
    have z0 : c + ((0 : Nat) : Int) = c := by omega
    refine ⟨s2.heap.objs.size + 1, [s2.heap.objs.size + 1, s2.heap.objs.size], _, _, H2, rfl, I3, turn_enumC a (s2.heap.objs.size + 1) s2.heap.objs.size c, ⟨⟨.none, by rw [z0]; exact hE⟩, hit, Nat.succ_ne_self _⟩, fun b hb => ?_, q⟩
    have hle : s2.heap.objs.size ≤ b := by
      rcases List.mem_cons.mp hb with z | z
      · rw [z]; exact Nat.le_succ _
      · rw [List.mem_singleton.mp z]; exact Nat.le_refl _
    exact I2.fpOk hle (I2.hok.fresh hle)
  show wpAny (model X.prog X.w) X.A (call (.type "enumerate") [.ref a] [(Str.ofString "start", .int c t1)]) _ _ _
  exact enum_begins_start (begins_list a its.toArray) p'.isList (by omega) (by omega) fun h' hE hit hsz hkk => wpAny_pyIter_enum hE (fin h' hE ⟨_, hit, rfl, rfl⟩ hkk)
theorem walk_enumC {K : PySem.W.Frag} {a : Addr} {c : Int} {xs : List V} : Walk (IteC K a c) xs.length (fun H => SqL K H a xs) (YPair (fun i => some (.int (c + (i : Nat)))) (fun i => xs[i]?)) :=
  ⟨fun i _ hi q => ⟨xs, xs[i], q, by simp [hi]⟩, fun _ q => ⟨xs, q, rfl⟩, fun i H v H' _ q ⟨T, x, h1, h2, h3, h4⟩ => ⟨T, .int (c + (i : Nat)), x, h1, h2, h3, rfl, h4 xs q⟩⟩
end
end EN

namespace K11
open PySem L2 SI CM BK OWN MIR StX TX TL
section
variable {w : World} {K : PySem.W.Frag} {mg : Str → Option Value} {base : Heap} (T : Txt w K mg)
def flat4 : V → Bool
  | .int _ => true | .bl _ => true | .str _ => true | .non => true | _ => false
theorem flat4_V {v : V} (h : flat4 v = true) : flatV v = true := by cases v <;> first | rfl | cases h
def top30 : Int := 1000000000000000000000000000000
def stampV : V → Int → Bool
  | .int n, l => decide (l ≤ n) && decide (n ≤ top30)
  | _, _ => false
def spIs : Sp := fun vs H Q _ => ∃ v l, vs = [v, .int l] ∧ flat4 v = true ∧ Q (.bl (stampV v l)) H
theorem ok_is : FnOk PP w K mg base CX0 1 T.f_is_stamp T.d_is_stamp ["number", "least"] spIs := by
  refine T.F_is_stamp.ok sc_is_stamp (fun vs H Q E h => ?_) (fun cdv A outer s H vs Q E hr h => ?_)
  · obtain ⟨v, l, rfl, _⟩ := h
    rfl
  · obtain ⟨v, l, rfl, fv, k⟩ := h
    obtain ⟨tg, hG⟩ := T.g_GREATEST
    refine ⟨_, pss_cons (ps_if (PW.pt (pw_or (pt_val (pe_callB call_isi (by rfl) T.n_isinstance (by decide +kernel) (pa_cons (pv 0) (pa_cons (pe_bltn (v := .ty "bool") (by rfl) T.n_bool (by decide +kernel) rfl) pa_nil))))
        (pw_or1 (pt_not (pt_val (pe_callB call_isi (by rfl) T.n_isinstance (by decide +kernel) (pa_cons (pv 0) (pa_cons (pe_bltn (v := .ty "int") (by rfl) T.n_int (by decide +kernel) rfl) pa_nil)))))))) (pss_one (ps_ret pe_bl)) pss_nil)
      (pss_one (ps_ret (pe_chain op_le op_le (pv 1) (pv 0) (pe_glob (v := .int top30) (by rfl) hG ⟨_, rfl⟩)))), ?_⟩
    cases v with
    | int n =>
      refine ⟨_, rfl, _, _, _, _, false, rfl, ClsV.ty _, .base (.int _), kit_ty (by decide +kernel), _, rfl, ?_⟩
      refine iteF ?_
      refine ⟨_, rfl, _, _, _, _, true, rfl, ClsV.ty _, .base (.int _), kit_ty (by decide +kernel), _, rfl, ?_⟩
      refine iteF ?_
      refine ⟨_, rfl, _, rfl, _, _, rfl, rfl, _, rfl, ?_⟩
      by_cases hl : l ≤ n
      · rw [decide_eq_true hl]
        refine iteT ⟨_, _, rfl, rfl, ?_⟩
        have e : stampV (.int n) l = decide (n ≤ top30) := by simp [stampV, hl]
        rw [e] at k
        exact k
      · rw [decide_eq_false hl]
        refine iteF ?_
        have e : stampV (.int n) l = false := by simp [stampV, hl]
        rw [e] at k
        exact k
    | bl b =>
      refine ⟨_, rfl, _, _, _, _, true, rfl, ClsV.ty _, .base (.bl _), kit_ty (by decide +kernel), _, rfl, ?_⟩
      exact iteT k
    | str x =>
      refine ⟨_, rfl, _, _, _, _, false, rfl, ClsV.ty _, .base (.str _), kit_ty (by decide +kernel), _, rfl, ?_⟩
      refine iteF ?_
      refine ⟨_, rfl, _, _, _, _, false, rfl, ClsV.ty _, .base (.str _), kit_ty (by decide +kernel), _, rfl, ?_⟩
      exact iteT k
    | non =>
      refine ⟨_, rfl, _, _, _, _, false, rfl, ClsV.ty _, .base .non, kit_ty (by decide +kernel), _, rfl, ?_⟩
      refine iteF ?_
      refine ⟨_, rfl, _, _, _, _, false, rfl, ClsV.ty _, .base .non, kit_ty (by decide +kernel), _, rfl, ?_⟩
      exact iteT k
    | _ => cases fv
theorem kbIS : ∃ (g : List Value → List Value → List Value), KBn K T.d_is_stamp ["number", "least"] 1 ["least"] g (fun vs zs => vs ++ zs) := by
  obtain ⟨its, h⟩ := T.F_is_stamp.kbindsD (ps := ["number", "least"]) 1 ["least"] (fun us its ws => us ++ ws) (by simp) (fun r1 _ r3 => r1.append r3)
    fun T kV doc pm an cdv ct us its ws l1 l2 l3 => match us, its, ws, l1, l2, l3 with
      | [_], [_], [_], _, _, _ => ⟨_, rfl, rfl⟩
  exact ⟨_, h⟩
abbrev SIG : Str := "abcdefghijklmnopqrstuvwxyz0123456789"
def nameV : V → Bool
  | .str z => decide (1 ≤ z.length) && (decide (z.length ≤ 8) && (TL.tl z).all fun c => decide (c ∈ TL.tl SIG))
  | _ => false
def spName : Sp := fun vs H Q _ => ∃ v, vs = [v] ∧ flat4 v = true ∧ (∀ z, v = .str z → z.length ≤ 900) ∧ ∀ H', Same H H' → Q (.bl (nameV v)) H'
theorem ok_is_name : FnOk PP w K mg base CX0 1 T.f_is_name T.d_is_name ["name"] spName := by
  refine T.F_is_name.ok sc_is_name (fun vs H Q E h => ?_) (fun cdv A outer s H vs Q E hr h => ?_)
  · obtain ⟨v, rfl, _⟩ := h
    rfl
  · obtain ⟨v, rfl, fv, hz, k⟩ := h
    obtain ⟨t1, hG_LONGEST_NAME⟩ := T.g_LONGEST_NAME
    obtain ⟨t2, hG_SIGNS⟩ := T.g_SIGNS
    refine ⟨_, pss_cons (ps_if (pt_not (pt_val (pe_callB call_isi (by rfl) T.n_isinstance (by decide +kernel) (pa_cons (pv 0) (pa_cons (pe_bltn (v := .ty "str") (by rfl) T.n_str (by decide +kernel) rfl) pa_nil)))))
 (pss_one (ps_ret pe_bl))
 pss_nil)
 (pss_one (ps_ret (pe_and (pe_chain op_le op_le pe_int (pe_callB call_len_str (by rfl) T.n_len PySem.boot_len (pa_cons (pv 0) pa_nil)) (pe_glob (v := .int 8) (by rfl) hG_LONGEST_NAME ⟨_, rfl⟩)) (pe_one (pe_callB (cr_all rfl) (by rfl) T.n_all (by decide +kernel) (pa_cons (pe_lc (own := [("sign", 1)]) (g := gName 1) (tt := tYes) (by rfl) sc_is_name.nd (pi_str (pv 0)) (blkOk_by (N := ["name", "sign"]) (sc := defScope s_is_name) (by decide +kernel)) (fun _ _ _ _ _ => pg_name (i := 1) sc_is_name.nd rfl (Or.inl rfl)) (fun _ _ _ _ _ => pts_nil) (fun _ _ _ _ _ => (pe_cmpR op_in_sign (pv 1) (pe_glob (v := .str "abcdefghijklmnopqrstuvwxyz0123456789") (by rfl) hG_SIGNS ⟨_, rfl⟩) rfl))) pa_nil)))))), ?_⟩
    have k0 := k H (Same.refl H)
    cases v with
    | int n =>
      exact ⟨_, rfl, _, _, _, _, false, rfl, ClsV.ty _, .base (.int _), kit_ty (by decide +kernel), _, rfl, iteT k0⟩
    | bl n =>
      exact ⟨_, rfl, _, _, _, _, false, rfl, ClsV.ty _, .base (.bl _), kit_ty (by decide +kernel), _, rfl, iteT k0⟩
    | non =>
      exact ⟨_, rfl, _, _, _, _, false, rfl, ClsV.ty _, .base .non, kit_ty (by decide +kernel), _, rfl, iteT k0⟩
    | str z =>
      have hzl := hz z rfl
      have hzs : z.length ≤ sizeLine := Nat.le_trans hzl (Nat.le_of_lt (small1000 (by decide)))
      refine ⟨_, rfl, _, _, _, _, true, rfl, ClsV.ty _, .base (.str _), kit_ty (by decide +kernel), _, rfl, iteF ?_⟩
      refine ⟨_, rfl, z, rfl, hzs, _, _, rfl, rfl, _, rfl, ?_⟩
      by_cases c1 : 1 ≤ z.length
      · rw [decide_eq_true (by omega : (1 : Int) ≤ ((z.length : Nat) : Int))]
        refine iteT ⟨_, _, rfl, rfl, _, rfl, ?_⟩
        by_cases c2 : z.length ≤ 8
        · rw [decide_eq_true (by omega : ((z.length : Nat) : Int) ≤ 8)]
          refine iteT ⟨_, rfl, z, rfl, fun D nD => lc_it (walk_str (z := z)) (fun i H' => H' D = some (.lst (((TL.tl z).take i).map fun c => V.bl (decide (c ∈ TL.tl SIG)))) ∧ Same H H') ⟨upd_same, same_new (Same.refl H) nD⟩ (fun _ _ _ _ => trivial) ?_ ?_⟩
          · rintro i x H1 H' hi ⟨hD', sm⟩ ⟨rfl, c', hc', rfl⟩
            refine ⟨rfl, _, rfl, c', _, rfl, rfl, _, hD', small1000 (by rw [List.length_map, List.length_take]; rw [TL.len_tl] at hzl; omega), ?_, fun b o q => ?_⟩
            · rw [upd_same]
              have hc2 : (TL.tl z)[i]? = some c' := by rw [← Array.getElem?_toList] at hc'; exact hc'
              rw [List.take_add_one, hc2, List.map_append]
              rfl
            · rw [upd_ne (ne_of_none q nD)]
              exact sm b o q
          · rintro H' ⟨hD', sm⟩
            have hn : z.cps.size = (TL.tl z).length := by simp [TL.tl]
            rw [hn, List.take_length] at hD'
            refine ⟨D, (TL.tl z).map fun c => decide (c ∈ TL.tl SIG), rfl, SqL.of (by rw [hD', List.map_map] <;> rfl), ?_⟩
            have e0 : nameV (.str z) = ((TL.tl z).map fun c => decide (c ∈ TL.tl SIG)).all id := by
              show (decide (1 ≤ z.length) && (decide (z.length ≤ 8) && _)) = _
              rw [decide_eq_true c1, decide_eq_true c2, List.all_map]; rfl
            have q := k H' sm
            rw [e0] at q
            exact q
        · rw [decide_eq_false (by omega : ¬ ((z.length : Nat) : Int) ≤ 8)]
          have e0 : nameV (.str z) = false := by
            show (decide (1 ≤ z.length) && (decide (z.length ≤ 8) && _)) = _
            rw [decide_eq_false c2, Bool.false_and, Bool.and_false]
          rw [e0] at k0
          exact iteF k0
      · rw [decide_eq_false (by omega : ¬ (1 : Int) ≤ ((z.length : Nat) : Int))]
        have e0 : nameV (.str z) = false := by
          show (decide (1 ≤ z.length) && _) = _
          rw [decide_eq_false c1, Bool.false_and]
        rw [e0] at k0
        exact iteF ⟨_, rfl, iteF k0⟩
    | _ => cases fv
end
end K11

namespace K11
open PySem L2 SI CM BK OWN MIR StX TX TL
section
variable {w : World} {K : PySem.W.Frag} {mg : Str → Option Value} {base : Heap} (T : Txt w K mg)
def stepB : List V → Bool
  | [k, s] => inV k [.str "commit", .str "abort"] && stampV s 1
  | [k, s, n] => inV k [.str "read", .str "write"] && (stampV s 1 && nameV n)
  | _ => false
/-- a part of a run: whether it is a step -/
def PartAt (H : Hp) (v : V) (b : Bool) : Prop := (flat4 v = true ∧ b = false) ∨ ∃ a xs, v = .ref a ∧ H a = some (.tup xs) ∧ (∀ x ∈ xs, flat4 x = true ∧ ∀ z, x = .str z → z.length ≤ 900) ∧ xs.length ≤ 100 ∧ b = stepB xs
theorem PartAt.same {H H' : Hp} {v : V} {b : Bool} (s : Same H H') : PartAt H v b → PartAt H' v b
  | .inl h => .inl h
  | .inr ⟨a, xs, h1, h2, h3⟩ => .inr ⟨a, xs, h1, s _ _ h2, h3⟩
def spIsStep : Sp := fun vs H Q _ => ∃ v b, vs = [v] ∧ PartAt H v b ∧ ∀ H', Same H H' → Q (.bl b) H'
theorem ok_is_step : FnOk PP w K mg base CX0 2 T.f_is_step T.d_is_step ["part"] spIsStep := by
  refine T.F_is_step.ok sc_is_step (fun vs H Q E h => ?_) (fun cdv A outer s H vs Q E hr h => ?_)
  · obtain ⟨v, b, rfl, _⟩ := h
    rfl
  · obtain ⟨v, b, rfl, hp, k⟩ := h
    obtain ⟨g_kbIS, hkbIS⟩ := kbIS T
    refine ⟨_, pss_cons (ps_if (pt_not (pt_val (pe_callB call_isi (by rfl) T.n_isinstance (by decide +kernel) (pa_cons (pv 0) (pa_cons (pe_bltn (v := .ty "tuple") (by rfl) T.n_tuple (by decide +kernel) rfl) pa_nil)))))
 (pss_one (ps_ret pe_bl))
 pss_nil)
 (pss_cons (ps_if (pt_cmpR op_eq (pe_callB call_len_seq (by rfl) T.n_len PySem.boot_len (pa_cons (pv 0) pa_nil)) pe_int (nomark _))
 (pss_one (ps_ret (pe_and (pe_cmpR op_in_seq (pe_ix ix_tup (pv 0) pe_int (fun _ _ => rfl)) (pe_tup (pa_cons pe_str (pa_cons pe_str pa_nil))) rfl) (pe_one (pe_callN (n := 1) (ok_is T) (hr.mono (by decide)) (by rfl) T.g_is_stamp T.F_is_stamp.kp hkbIS pass0 (pa_cons (pe_ix ix_tup (pv 0) pe_int (fun _ _ => rfl)) pa_nil) (pk_cons pe_int pk_nil))))))
 pss_nil)
 (pss_cons (ps_if (pt_cmpR op_eq (pe_callB call_len_seq (by rfl) T.n_len PySem.boot_len (pa_cons (pv 0) pa_nil)) pe_int (nomark _))
 (pss_one (ps_ret (pe_and (pe_cmpR op_in_seq (pe_ix ix_tup (pv 0) pe_int (fun _ _ => rfl)) (pe_tup (pa_cons pe_str (pa_cons pe_str pa_nil))) rfl) (pe_and (pe_callN (n := 1) (ok_is T) (hr.mono (by decide)) (by rfl) T.g_is_stamp T.F_is_stamp.kp hkbIS pass0 (pa_cons (pe_ix ix_tup (pv 0) pe_int (fun _ _ => rfl)) pa_nil) (pk_cons pe_int pk_nil)) (pe_one (pe_call (ok_is_name T) (hr.mono (by decide)) (by rfl) T.g_is_name T.F_is_name.kp (b_is_name T) .nil pass0 (pa_cons (pe_ix ix_tup (pv 0) pe_int (fun _ _ => rfl)) pa_nil)))))))
 pss_nil)
 (pss_one (ps_ret pe_bl)))), ?_⟩
    have k0 := k H (Same.refl H)
    have two : 2 ≤ sizeLine := by decide
    rcases hp with ⟨fv, rfl⟩ | ⟨a, xs, rfl, ha, hf, hl, rfl⟩
    · cases v with
      | int n => exact ⟨_, rfl, _, _, _, _, false, rfl, ClsV.ty _, .base (.int _), kit_ty (by decide +kernel), _, rfl, iteT k0⟩
      | bl n => exact ⟨_, rfl, _, _, _, _, false, rfl, ClsV.ty _, .base (.bl _), kit_ty (by decide +kernel), _, rfl, iteT k0⟩
      | non => exact ⟨_, rfl, _, _, _, _, false, rfl, ClsV.ty _, .base .non, kit_ty (by decide +kernel), _, rfl, iteT k0⟩
      | str n => exact ⟨_, rfl, _, _, _, _, false, rfl, ClsV.ty _, .base (.str _), kit_ty (by decide +kernel), _, rfl, iteT k0⟩
      | _ => cases fv
    · refine ⟨_, rfl, _, _, _, _, true, rfl, ClsV.ty _, .base (.tup ha), kit_ty (by decide +kernel), _, rfl, iteF ?_⟩
      refine ⟨_, rfl, a, xs, rfl, .inr (SqT.of ha), rfl, _, rfl, ?_⟩
      have di : ∀ i j : Int, decide (V.int i = V.int j) = decide (i = j) := fun i j => decide_eq_decide.mpr ⟨V.int.inj, congrArg _⟩
      rw [di]
      by_cases c2 : xs.length = 2
      · obtain ⟨x, y, rfl⟩ : ∃ x y, xs = [x, y] := by
          match xs, c2 with
          | [x, y], _ => exact ⟨x, y, rfl⟩
        rw [decide_eq_true (by rfl)]
        refine iteT ⟨_, rfl, a, _, _, x, rfl, rfl, SqT.of ha, rfl, two, fun t nt => ⟨t, _, rfl, .inr (SqT.of upd_same), flat4_V (hf x (by simp)).1, rfl, _, rfl, ?_⟩⟩
        have s1 := same_new (o := .tup [.str "commit", .str "abort"]) (Same.refl H) nt
        have k1 := k _ s1
        cases c : inV x [V.str "commit", V.str "abort"] with
        | true =>
          have e0 : stepB [x, y] = stampV y 1 := by show (inV x [V.str "commit", V.str "abort"] && _) = _; rw [c, Bool.true_and]
          rw [e0] at k1
          exact iteT ⟨_, rfl, a, _, _, y, rfl, rfl, SqT.of (s1 _ _ ha), rfl, rfl, rfl, y, 1, rfl, (hf y (by simp)).1, k1⟩
        | false =>
          have e0 : stepB [x, y] = false := by show (inV x [V.str "commit", V.str "abort"] && _) = _; rw [c, Bool.false_and]
          rw [e0] at k1
          exact iteF k1
      · rw [decide_eq_false (by omega : ¬ ((xs.length : Nat) : Int) = 2)]
        refine iteF ⟨_, rfl, a, xs, rfl, .inr (SqT.of ha), rfl, _, rfl, ?_⟩
        rw [di]
        by_cases c3 : xs.length = 3
        · obtain ⟨x, y, n, rfl⟩ : ∃ x y n, xs = [x, y, n] := by
            match xs, c3 with
            | [x, y, n], _ => exact ⟨x, y, n, rfl⟩
          rw [decide_eq_true (by rfl)]
          refine iteT ⟨_, rfl, a, _, _, x, rfl, rfl, SqT.of ha, rfl, two, fun t nt => ⟨t, _, rfl, .inr (SqT.of upd_same), flat4_V (hf x (by simp)).1, rfl, _, rfl, ?_⟩⟩
          have s1 := same_new (o := .tup [.str "read", .str "write"]) (Same.refl H) nt
          have k1 := k _ s1
          cases c : inV x [V.str "read", V.str "write"] with
          | false =>
            have e0 : stepB [x, y, n] = false := by show (inV x [V.str "read", V.str "write"] && _) = _; rw [c, Bool.false_and]
            rw [e0] at k1
            exact iteF k1
          | true =>
            have e0 : stepB [x, y, n] = (stampV y 1 && nameV n) := by show (inV x [V.str "read", V.str "write"] && _) = _; rw [c, Bool.true_and]
            refine iteT ⟨_, rfl, a, _, _, y, rfl, rfl, SqT.of (s1 _ _ ha), rfl, rfl, rfl, y, 1, rfl, (hf y (by simp)).1, _, rfl, ?_⟩
            cases c1 : stampV y 1 with
            | false =>
              rw [e0, c1, Bool.false_and] at k1
              exact iteF k1
            | true =>
              rw [c1, Bool.true_and] at e0
              exact iteT ⟨_, rfl, a, _, _, n, rfl, rfl, SqT.of (s1 _ _ ha), rfl, n, rfl, (hf n (by simp)).1, (hf n (by simp)).2, fun H' s2 => by have := k H' (s1.trans s2); rw [e0] at this; exact this⟩
        · rw [decide_eq_false (by omega : ¬ ((xs.length : Nat) : Int) = 3)]
          have e0 : stepB xs = false := by
            match xs, c2, c3 with
            | [], _, _ => rfl
            | [_], _, _ => rfl
            | [_, _], c, _ => exact absurd rfl c
            | [_, _, _], _, c => exact absurd rfl c
            | _ :: _ :: _ :: _ :: _, _, _ => rfl
          rw [e0] at k0
          exact iteF k0
end
end K11

namespace K11
open PySem L2 SI CM BK OWN MIR StX TX TL
section
variable {w : World} {K : PySem.W.Frag} {mg : Str → Option Value} {base : Heap} (T : Txt w K mg)
def spE1i (C : Addr) (f : Str) : Sp := fun vs H Q _ => ∃ (a : Addr) (i : Nat), vs = [.ref a, .int (i : Int)] ∧ H a = some (exo a C none) ∧ i < 1000 ∧ ∀ dx, H dx = none → dx ≠ a → Q .non (upd (upd H dx (exd dx [(f, .int (i : Int))])) a (exo a C (some dx)))
theorem num_short : ∀ i, i < 1000 → (Str.ofString (toString ((i : Nat) : Int))).length ≤ 50 ∧ ((i : Nat) : Int).natAbs.log2 < 1920 := by
  have h : ((List.range 1000).all fun i => decide ((Str.ofString (toString ((i : Nat) : Int))).length ≤ 50 ∧ ((i : Nat) : Int).natAbs.log2 < 1920)) = true := by decide +kernel
  intro i hi
  exact of_decide_eq_true (List.all_eq_true.mp h i (List.mem_range.mpr hi))
theorem str_len_app (a b : Str) : (a ++ b).length = a.length + b.length := by
  show (a.cps ++ b.cps).size = _
  exact Array.size_append
theorem ok_BadStep : FnOk PP w K mg base CX0 1 T.f_BadStep_init T.d_BadStep_init ["self", "index"] (spE1i T.c_BadStep "index") := by
  refine ok_sup (N := ["self", "index", "__class__"]) T.S_BadStep_init sc_BadStep_init rfl (show (defScope s_BadStep_init).names.lookup ("super" : Str) = some .globalImplicit by decide +kernel) rfl rfl (fun vs H Q E h => ?_) (fun A outer s H vs Q E hr h => ?_)
  · obtain ⟨a, i, rfl, _⟩ := h
    rfl
  · obtain ⟨a, i, rfl, ha, hi, k⟩ := h
    obtain ⟨n1, n2⟩ := num_short i hi
    refine ⟨a, _, _, _, pa_cons (pe_joined (.cons pe_str (.cons (pe_fmt (pv 1)) .nil))) pa_nil, pss_one (ps_ost (pv 0) (pv 1)), rfl, fun M B u Q' E' s' z => PySem.Calls.evalArgs_plain z, rfl, rfl, rfl, ha, ?_⟩
    refine ⟨_, rfl, (by decide +kernel : (Str.empty ++ Str.ofString "no step at index ").length ≤ sizeLine), _, rfl, .inr ⟨i, rfl, n2, _, rfl, ?_, by show 1 ≤ 1000; decide, ha, ?_⟩⟩
    · show (Str.empty ++ Str.ofString "no step at index " ++ Str.ofString (toString (i : Int))).length ≤ sizeLine
      rw [str_len_app]
      have h1 : (Str.empty ++ Str.ofString "no step at index ").length = 17 := by decide +kernel
      rw [h1]
      exact Nat.le_of_lt (small1000 (by omega))
    · exact ⟨_, rfl, _, rfl, _, _, rfl, T.oex_BadStep, T.na_BadStep_index, .inl ⟨ha, fun dx n ne => k dx n ne⟩⟩
theorem rz1i {C : Addr} {H : Hp} {i : Nat} {f : Str} {E : XK} (hi : i < 1000) (kF : ∀ d, H d = none → E (.ref C) (some d) (upd H d (.xd [(f, .int (i : Int))]))) :
    (1 : Nat) ≤ 1000 ∧ ∀ a, H a = none → spE1i C f ([V.ref a, .int (i : Int)] ++ []) (upd H a (exo a C none)) (fun x H1 => x = .non ∧ ∃ d fs, H1 a = some (exo a C (some d)) ∧ H1 d = some (exd d fs) ∧ H d = none ∧ E (.ref C) (some d) (upd (del H1 a) d (.xd fs))) E0 := by
  refine ⟨by decide, fun a ha => ⟨a, i, rfl, upd_same, hi, fun d hd hne => ⟨rfl, d, [(f, .int (i : Int))], upd_same, ?_, ?_, ?_⟩⟩⟩
  · rw [upd_ne hne, upd_same]
  · rw [upd_ne hne] at hd
    exact hd
  · rw [upd_ne hne] at hd
    have z := kF d hd
    rw [raise_heap ha]
    exact z
/-- the parts of a run -/
def PartsAt (H : Hp) : List V → List Bool → Prop := F2 (PartAt H)
def spCheckRun (K : PySem.W.Frag) (C : Addr) : Sp := fun vs H Q E => ∃ (a : Addr) (xs : List V) (bs : List Bool), vs = [.ref a] ∧ SqL K H a xs ∧ PartsAt H xs bs ∧ xs.length ≤ 900 ∧ ((∀ b ∈ bs, b = true) → ∀ H', Same H H' → Q .non H') ∧
  ∀ i, bs[i]? = some false → (∀ j, j < i → bs[j]? = some true) → ∀ H' x, Same H H' → H x = none → H' x = some (.xd [(("index" : Str), .int (i : Nat))]) → E (.ref C) (some x) H'
theorem ok_check_run : FnOk PP w K mg base (L2.CX PP w) 4 T.f_check_run T.d_check_run ["run"] (spCheckRun K T.c_BadStep) := by
  refine T.F_check_run.okX sc_check_run (fun vs H Q E h => ?_) (fun cdv A outer s H vs Q E hr h => ?_)
  · obtain ⟨a, xs, bs, rfl, _⟩ := h
    rfl
  · obtain ⟨a, xs, bs, rfl, hS, hP, hl, kT, kF⟩ := h
    refine ⟨_, pss_one (ps_for (passes_of rfl) rfl (pi_enum (by rfl) T.n_enumerate (pa_cons (pv 0) pa_nil)) (pg_tup rfl (pgs_cons (pg_name (i := 1) sc_check_run.nd rfl (.inl rfl)) (pgs_cons (pg_name (i := 2) sc_check_run.nd rfl (.inl rfl)) pgs_nil)))
 (pss_one (ps_if (pt_not (pt_val (pe_call (ok_is_step T) (hr.mono (by decide)) (by rfl) T.g_is_step T.F_is_step.kp (b_is_step T) .nil pass0 (pa_cons (pv 2) pa_nil))))
 (pss_one (ps_raise rfl (takes_of rfl rfl rfl rfl) (pmk_oex T.oex_BadStep T.i_BadStep_init T.t_BadStep_init (ok_BadStep T) (hr.mono (by decide)) (b_BadStep_init T) .nil pass0 (by rfl) T.g_BadStep (pa_cons (pv 1) pa_nil))))
 pss_nil))), ?_⟩
    refine ⟨_, rfl, a, xs, rfl, hS, for_it (walk_enum (xs := xs)) (fun i τ H' => ∃ v1 v2, τ = [some (.ref a), v1, v2] ∧ Same H H' ∧ ∀ j, j < i → bs[j]? = some true)
      ⟨none, none, rfl, Same.refl H, fun j hj => absurd hj (Nat.not_lt_zero _)⟩ (fun i τ H' _ ⟨_, _, _, sm, _⟩ => sm.seq hS) ?_ ?_⟩
    · rintro i x τ H1 H2 hi ⟨v1, v2, rfl, sm, hb⟩ ⟨T', x1, x2, rfl, nT, rfl, e1, e2⟩
      cases e1
      obtain ⟨b, eb, hpb⟩ := hP.at e2
      have s2 := same_new (o := .tup [.int ((i : Nat) : Int), x2]) sm nT
      refine ⟨T', _, rfl, SqT.of upd_same, rfl, _, _, rfl, _, _, rfl, rfl, ?_⟩
      refine ⟨_, rfl, x2, b, rfl, hpb.same s2, fun H3 s3 => ⟨_, rfl, ?_⟩⟩
      cases b with
      | true =>
        refine iteF ⟨_, _, rfl, s2.trans s3, fun j hj => ?_⟩
        rcases Nat.lt_or_ge j i with h | h
        · exact hb j h
        · obtain rfl : j = i := by omega
          exact eb
      | false =>
        have s23 := s2.trans s3
        exact iteT ⟨_, rfl, rz1i (by omega) fun d hd => kF i eb hb _ d (same_new s23 hd) (s23.free hd) upd_same⟩
    · rintro τ H1 ⟨v1, v2, rfl, sm, hb⟩
      refine kT (fun b hbm => ?_) H1 sm
      obtain ⟨j, hj, e⟩ := List.mem_iff_getElem.mp hbm
      have := hb j (by rw [hP.len]; exact hj)
      rw [List.getElem?_eq_getElem hj, e] at this
      exact Option.some.inj this
end
end K11

namespace K11
open PySem L2 SI CM BK OWN MIR StX TX TL
section
variable {w : World} {K : PySem.W.Frag} {mg : Str → Option Value} {base : Heap} (T : Txt w K mg)
def nmOf : Stp → Str
  | .req _ _ n => n
  | _ => ""
abbrev usOf (xs : List Stp) : List Int := xs.map Stp.who
abbrev nsOf (xs : List Stp) : List Str := xs.map nmOf
def KdOk : Stp → Prop
  | .req k _ _ => k ∈ KINDS
  | _ => True
noncomputable def stN (B : Bkm) (xs : List Stp) : Nat → MIR.S
  | 0 => s0
  | i + 1 => match xs[i]? with
    | some x => (takeM B (stN B xs i) x (1 + (i : Nat))).1
    | none => stN B xs i
noncomputable def outN (B : Bkm) (xs : List Stp) (i : Nat) : Out := match xs[i]? with
  | some x => (takeM B (stN B xs i) x (1 + (i : Nat))).2
  | none => ⟨"", [], .non, []⟩
theorem stN_at {B : Bkm} {xs : List Stp} {i : Nat} {x : Stp} (h : xs[i]? = some x) : stN B xs (i + 1) = (takeM B (stN B xs i) x (1 + (i : Nat))).1 := by
  show (match xs[i]? with | some x => (takeM B (stN B xs i) x (1 + (i : Nat))).1 | none => stN B xs i) = _
  rw [h]
theorem outN_at {B : Bkm} {xs : List Stp} {i : Nat} {x : Stp} (h : xs[i]? = some x) : outN B xs i = (takeM B (stN B xs i) x (1 + (i : Nat))).2 := by
  unfold outN
  rw [h]
def RunAt (H : Hp) : List V → List Stp → Prop := F2 fun v x => ∃ q, v = .ref q ∧ StpAt H q x
theorem RunAt.same {H H' : Hp} (s : Same H H') {vs : List V} {xs : List Stp} (h : RunAt H vs xs) : RunAt H' vs xs := F2.mono (fun a b ⟨q, e, z⟩ => ⟨q, e, z.same s⟩) h
theorem PartsAt.same {H H' : Hp} (s : Same H H') {vs : List V} {bs : List Bool} (h : PartsAt H vs bs) : PartsAt H' vs bs := F2.mono (fun a b z => z.same s) h
/-- (state, outcome, state) of turn i -/
def TrAt (CS CI : Addr) (B : Bkm) (xs : List Stp) (H : Hp) (p : Addr) (i : Nat) : Prop := ∃ a b c, H p = some (.tup [.ref a, .ref b, .ref c]) ∧ StAt CS CI (usOf xs) (nsOf xs) H a (stN B xs i) ∧ OutAt H b (outN B xs i) ∧ StAt CS CI (usOf xs) (nsOf xs) H c (stN B xs (i + 1)) ∧ Srt (usOf xs) (outN B xs i)
theorem TrAt.same {CS CI : Addr} {B : Bkm} {xs : List Stp} {H H' : Hp} {p : Addr} {i : Nat} (h : TrAt CS CI B xs H p i) (s : Same H H') : TrAt CS CI B xs H' p i := by
  obtain ⟨a, b, c, h1, h2, h3, h4, h5⟩ := h
  exact ⟨a, b, c, s _ _ h1, h2.same s, h3.same s, h4.same s, h5⟩
/-- all that is no list stays -/
def SameK (H H' : Hp) : Prop := ∀ b o, (∀ xs, o ≠ .lst xs) → H b = some o → H' b = some o
theorem SameK.t {H H' : Hp} (s : SameK H H') : SameT H H' := fun b o st h => s b o (by rintro xs rfl; cases st) h
theorem SameK.chg {H : Hp} {p : Addr} {xs : List V} {o : HO} (h : H p = some (.lst xs)) : SameK H (upd H p o) := fun b x n z => by
  rw [upd_ne (fun q => by rw [q, h] at z; exact n xs (Option.some.inj z).symm)]
  exact z
theorem SameK.of {H H' : Hp} (s : Same H H') : SameK H H' := fun b o _ h => s b o h
theorem SameK.trans {H H' H'' : Hp} (s : SameK H H') (t : SameK H' H'') : SameK H H'' := fun b o n h => t b o n (s b o n h)
theorem StAt_K {CS CI : Addr} {U : List Int} {N : List Str} {H H' : Hp} {p : Addr} {σ : MIR.S} (h : StAt CS CI U N H p σ) (s : SameK H H') : StAt CS CI U N H' p σ := by
  obtain ⟨dx, ds, dv, db, h1, n1, n2, n3, D1, D2, D3⟩ := h.ex
  obtain ⟨sv, a1, a2, a3⟩ := D1.ex
  obtain ⟨ov, b1, b2, b3⟩ := D2.ex
  obtain ⟨bv, c1, c2, c3⟩ := D3.ex
  have ki : ∀ {b o}, (∀ xs, o ≠ .lst xs) → H b = some o → H' b = some o := fun {b o} n z => s b o n z
  refine ⟨dx, ds, dv, db, ki (by intro xs q; cases q) h1, n1, n2, n3, ⟨sv, ki (by intro xs q; cases q) a1, a2, store_congr a3 s.t fun _ => rfl⟩, ⟨ov, ki (by intro xs q; cases q) b1, b2, b3⟩, ⟨bv, ki (by intro xs q; cases q) c1, c2, fun k => ?_⟩⟩
  have z := c3 k
  cases k with
  | inr n => exact z
  | inl x =>
    cases e2 : valV bv (Sum.inl x) with
    | none => rw [e2] at z; exact z
    | some v =>
      rw [e2] at z
      obtain ⟨q, h3, h4, h5, h6, h7⟩ := z
      exact ⟨q, h3, h4, ki (by intro xs q; cases q) h5, h6, h7⟩
theorem TrAt_K {CS CI : Addr} {B : Bkm} {xs : List Stp} {H H' : Hp} {p : Addr} {i : Nat} (h : TrAt CS CI B xs H p i) (s : SameK H H') : TrAt CS CI B xs H' p i := by
  obtain ⟨a, b, c, h1, h2, h3, h4, h5⟩ := h
  exact ⟨a, b, c, s _ _ (by intro xs q; cases q) h1, StAt_K h2 s, h3.sameT s.t, StAt_K h4 s, h5⟩
def TracAt (CS CI : Addr) (B : Bkm) (xs : List Stp) (H : Hp) (p : Addr) (n : Nat) : Prop := ∃ ts : List Addr, H p = some (.lst (ts.map V.ref)) ∧ F2 (TrAt CS CI B xs H) ts (List.range n)
/-- a run is asked: its parts, and its steps where all are good -/
structure RunQ (K : PySem.W.Frag) (H : Hp) (a : Addr) (vs : List V) (bs : List Bool) (xs : List Stp) : Prop where
  seq : SqL K H a vs
  prt : PartsAt H vs bs
  le : vs.length ≤ 300
  run : (∀ b ∈ bs, b = true) → RunAt H vs xs ∧ ∀ x ∈ xs, KdOk x
theorem RunQ.same {K : PySem.W.Frag} {H H' : Hp} {a : Addr} {vs : List V} {bs : List Bool} {xs : List Stp} (h : RunQ K H a vs bs xs) (s : Same H H') : RunQ K H' a vs bs xs := ⟨s.seq h.seq, h.prt.same s, h.le, fun z => ⟨(h.run z).1.same s, (h.run z).2⟩⟩
def BadRun (C : Addr) (bs : List Bool) (H : Hp) (E : XK) : Prop := ∀ i, bs[i]? = some false → (∀ j, j < i → bs[j]? = some true) → ∀ H' x, Same H H' → H x = none → H' x = some (.xd [(("index" : Str), .int (i : Nat))]) → E (.ref C) (some x) H'
def spTraced (K : PySem.W.Frag) (CB CS CI CE : Addr) : Sp := fun vs H Q E => ∃ (b dxb d : Addr) (f : Str → Str) (e : Str) (k : Nat) (a : Addr) (ws : List V) (bs : List Bool) (xs : List Stp), vs = [.ref b, .ref a] ∧
  Bk CB H b dxb d f e (k : Int) ∧ (∀ x ∈ ENT, f x ∈ chs x) ∧ 1 ≤ k ∧ k ≤ 20 ∧ RunQ K H a ws bs xs ∧
  ((∀ b ∈ bs, b = true) → ∀ (H' : Hp) (p : Addr), Same H H' → H p = none → TracAt CS CI ⟨f, e, k⟩ xs H' p xs.length → Q (.ref p) H') ∧ BadRun CE bs H E
theorem ok_traced : FnOk PP w K mg base (L2.CX PP w) 11 T.f_traced T.d_traced ["book", "run"] (spTraced K T.c_Book T.c_State T.c_Item T.c_BadStep) := by
  refine T.F_traced.okX sc_traced (fun vs H Q E h => ?_) (fun cdv A outer s H vs Q E hr h => ?_)
  · obtain ⟨b, dxb, d, f, e, k, a, ws, bs, xs, rfl, _⟩ := h
    rfl
  · obtain ⟨b, dxb, d, f, e, k, a, ws, bs, xs, rfl, B, hf, k1, k20, R, kT, kF⟩ := h
    refine ⟨_, pss_cons (ps_expr (pe_call (ok_check_run T) (hr.mono (by decide)) (by rfl) T.g_check_run T.F_check_run.kp (b_check_run T) .nil (passes_call (takes_of rfl rfl rfl rfl) fun _ _ _ _ h => h) (pa_cons (pv 1) pa_nil)))
 (pss_cons (ps_set (i := 2) sc_traced.nd rfl (.inl rfl) (pe_call0 (ok_first T) (hr.mono (by decide)) (by rfl) T.g_first_state T.F_first_state.kp (b_first_state T) .nil pass0))
 (pss_cons (ps_set (i := 3) sc_traced.nd rfl (.inl rfl) (pe_lst pa_nil))
 (pss_cons (ps_for (passes_of rfl) rfl (EN.pi_enumK (by rfl) T.n_enumerate (pa_cons (pv 1) pa_nil) (pk_cons pe_int pk_nil)) (pg_tup rfl (pgs_cons (pg_name (i := 4) sc_traced.nd rfl (.inl rfl)) (pgs_cons (pg_name (i := 5) sc_traced.nd rfl (.inl rfl)) pgs_nil)))
 (pss_cons (ps_asg (pe_call (ok_taken T) (hr.mono (by decide)) (by rfl) T.g_taken T.F_taken.kp (b_taken T) .nil pass0 (pa_cons (pv 0) (pa_cons (pv 2) (pa_cons (pv 5) (pa_cons (pv 4) pa_nil))))) (pg_tup rfl (pgs_cons (pg_name (i := 6) sc_traced.nd rfl (.inl rfl)) (pgs_cons (pg_name (i := 7) sc_traced.nd rfl (.inl rfl)) pgs_nil))))
 (pss_cons (ps_expr (pe_bm PySem.F.plainAttrs_list PySem.F.slot_list_append PySem.F.type_list_append mt_append (pv 3) (pa_cons (pe_tup (pa_cons (pv 2) (pa_cons (pv 7) (pa_cons (pv 6) pa_nil)))) pa_nil)))
 (pss_one (ps_set (i := 2) sc_traced.nd rfl (.inl rfl) (pv 6))))))
 (pss_one (ps_ret (pv 3)))))), ?_⟩
    have three : 3 ≤ sizeLine := by decide
    refine ⟨_, rfl, a, ws, bs, rfl, R.seq, R.prt, by have := R.le; omega, fun hall H1 s1 => ?_, fun i e1 e2 H' x sm nx hx => kF i e1 e2 H' x sm nx hx⟩
    obtain ⟨hrun, hkd⟩ := R.run hall
    have hlen := hrun.len
    refine ⟨rfl, fun H2 p0 s2 np0 hst0 => ?_⟩
    refine ⟨Nat.zero_le _, fun D nD => ?_⟩
    have s02 := s1.trans s2
    have s03 := same_new (o := .lst []) s02 nD
    have hD0 : (upd H2 D (.lst [])) D = some (.lst []) := upd_same
    have hst1 : StAt T.c_State T.c_Item (usOf xs) (nsOf xs) (upd H2 D (.lst [])) p0 (stN ⟨f, e, k⟩ xs 0) := (hst0 _ _).same (same_new (Same.refl H2) nD)
    have fD : H D = none := s02.free nD
    generalize upd H2 D (.lst []) = H3 at s03 hD0 hst1
    refine ⟨_, rfl, a, ws, 1, rfl, rfl, by decide, by decide, s03.seq R.seq, for_it (EN.walk_enumC (xs := ws)) (fun i τ H' => ∃ (p : Addr) (v4 v5 v6 v7 : Option V) (ts : List Addr), τ = [some (.ref b), some (.ref a), some (.ref p), some (.ref D), v4, v5, v6, v7] ∧ Same H H' ∧ H' D = some (.lst (ts.map V.ref)) ∧ F2 (TrAt T.c_State T.c_Item ⟨f, e, k⟩ xs H') ts (List.range i) ∧ StAt T.c_State T.c_Item (usOf xs) (nsOf xs) H' p (stN ⟨f, e, k⟩ xs i))
      ⟨p0, none, none, none, none, [], rfl, s03, hD0, .nil, hst1⟩ (fun i τ H' _ ⟨_, _, _, _, _, _, _, sm, _⟩ => sm.seq R.seq) ?_ ?_⟩
    · rintro i x τ H4 H5 hi ⟨p, v4, v5, v6, v7, ts, rfl, sm, hD, hts, hst⟩ ⟨T', x1, x2, rfl, nT, rfl, e1, e2⟩
      cases e1
      obtain ⟨y, ey, q, rfl, hq⟩ := hrun.at e2
      have ym : y ∈ xs := List.mem_of_getElem? ey
      have s5 := same_new (o := .tup [.int (1 + ((i : Nat) : Int)), .ref q]) (Same.refl H4) nT
      have hT5 : (upd H4 T' (.tup [.int (1 + ((i : Nat) : Int)), .ref q])) T' = some (.tup [.int (1 + ((i : Nat) : Int)), .ref q]) := upd_same
      generalize upd H4 T' (.tup [.int (1 + ((i : Nat) : Int)), .ref q]) = H5 at s5 hT5
      have sm5 := sm.trans s5
      have hok : StpOk (usOf xs) (nsOf xs) (.int (1 + ((i : Nat) : Int))) (1 + ((i : Nat) : Int)) y := by
        have h1 : y.who ∈ usOf xs := List.mem_map.mpr ⟨y, ym, rfl⟩
        have h2 : nmOf y ∈ nsOf xs := List.mem_map.mpr ⟨y, ym, rfl⟩
        have h3 := hkd y ym
        cases y with
        | req kd s n => exact ⟨h1, h2, h3, fun _ => rfl⟩
        | com s => exact h1
        | abo s => exact h1
      have l1 : (usOf xs).length ≤ 400 := by rw [List.length_map, ← hlen]; have := R.le; omega
      have l2 : (nsOf xs).length ≤ 400 := by rw [List.length_map, ← hlen]; have := R.le; omega
      refine ⟨T', _, rfl, SqT.of hT5, rfl, _, _, rfl, _, _, rfl, rfl, ?_⟩
      refine ⟨_, rfl, _, rfl, _, rfl, _, rfl, b, dxb, d, f, e, k, p, q, _, 1 + ((i : Nat) : Int), y, usOf xs, nsOf xs, stN ⟨f, e, k⟩ xs i, rfl, B.same sm5, hf, k1, k20, hq.same sm5, hok, hst.same s5, l1, l2, fun H6 r s6 ⟨a2, b2, hr2, hst2, hout⟩ hsrt => ?_⟩
      refine ⟨r, _, rfl, SqT.of hr2, rfl, _, _, rfl, _, _, rfl, rfl, ?_⟩
      have s56 := s5.trans s6
      refine ⟨_, rfl, .inl ⟨rfl, _, SqL.of (s56 _ _ hD)⟩, _, rfl, _, rfl, _, rfl, three, fun u nu => ?_⟩
      have s7 := same_new (o := .tup [.ref p, .ref b2, .ref a2]) (Same.refl H6) nu
      have hu : (upd H6 u (.tup [.ref p, .ref b2, .ref a2])) u = some (.tup [.ref p, .ref b2, .ref a2]) := upd_same
      generalize upd H6 u (.tup [.ref p, .ref b2, .ref a2]) = H7 at s7 hu
      have s47 := s56.trans s7
      have hD7 := s47 _ _ hD
      have len_ts : ts.length = i := by rw [hts.len, List.length_range]
      refine ⟨_, _, _, rfl, rfl, hD7, small1000 (by rw [List.length_map, len_ts]; have := R.le; omega), _, rfl, ?_⟩
      have t8 : SameK H7 (upd H7 D (.lst (ts.map V.ref ++ [V.ref u]))) := SameK.chg hD7
      have s8 : Same H (upd H7 D (.lst (ts.map V.ref ++ [V.ref u]))) := fun x o z => by rw [upd_ne (ne_of_none z fD)]; exact (sm.trans s47) x o z
      have est := stN_at (B := ⟨f, e, k⟩) ey
      have eou := outN_at (B := ⟨f, e, k⟩) ey
      rw [← est] at hst2
      rw [← eou] at hout hsrt
      refine ⟨a2, _, _, _, _, ts ++ [u], rfl, s8, by rw [upd_same, List.map_append]; rfl, ?_, StAt_K (hst2.same s7) t8⟩
      rw [List.range_succ]
      refine (hts.mono fun x j hx => TrAt_K (hx.same s47) t8).snoc (TrAt_K ⟨p, b2, a2, hu, hst.same s47, hout.same s7, hst2.same s7, hsrt⟩ t8)
    · rintro τ H4 ⟨p, v4, v5, v6, v7, ts, rfl, sm, hD, hts, hst⟩
      rw [hlen] at hts
      exact ⟨_, rfl, kT hall H4 D sm fD ⟨ts, hD, hts⟩⟩
end
end K11

namespace K11
open PySem L2 SI CM BK OWN MIR StX TX TL
section
variable {w : World} {K : PySem.W.Frag} {mg : Str → Option Value} {base : Heap} (T : Txt w K mg)
def OutsAt (B : Bkm) (xs : List Stp) (H : Hp) (p : Addr) (n : Nat) : Prop := ∃ ts : List Addr, H p = some (.lst (ts.map V.ref)) ∧ F2 (fun q i => OutAt H q (outN B xs i) ∧ Srt (usOf xs) (outN B xs i)) ts (List.range n)
theorem OutsAt.same {B : Bkm} {xs : List Stp} {H H' : Hp} {p : Addr} {n : Nat} (h : OutsAt B xs H p n) (s : Same H H') : OutsAt B xs H' p n := by
  obtain ⟨ts, h1, h2⟩ := h
  exact ⟨ts, s _ _ h1, h2.mono fun a b z => ⟨z.1.same s, z.2⟩⟩
def spPlay (K : PySem.W.Frag) (CB CE : Addr) : Sp := fun vs H Q E => ∃ (b dxb d : Addr) (f : Str → Str) (e : Str) (k : Nat) (a : Addr) (ws : List V) (bs : List Bool) (xs : List Stp), vs = [.ref b, .ref a] ∧
  Bk CB H b dxb d f e (k : Int) ∧ (∀ x ∈ ENT, f x ∈ chs x) ∧ 1 ≤ k ∧ k ≤ 20 ∧ RunQ K H a ws bs xs ∧
  ((∀ b ∈ bs, b = true) → ∀ (H' : Hp) (p : Addr), Same H H' → H p = none → OutsAt ⟨f, e, k⟩ xs H' p xs.length → Q (.ref p) H') ∧ BadRun CE bs H E
theorem ok_play : FnOk PP w K mg base (L2.CX PP w) 12 T.f_play T.d_play ["book", "run"] (spPlay K T.c_Book T.c_BadStep) := by
  refine T.F_play.okX sc_play (fun vs H Q E h => ?_) (fun cdv A outer s H vs Q E hr h => ?_)
  · obtain ⟨b, dxb, d, f, e, k, a, ws, bs, xs, rfl, _⟩ := h
    rfl
  · obtain ⟨b, dxb, d, f, e, k, a, ws, bs, xs, rfl, B, hf, k1, k20, R, kT, kF⟩ := h
    refine ⟨_, pss_one (ps_ret (pe_lc (own := [("_", 2), ("outcome", 3)]) (g := (gTup K 3 (gCons (gName 2) (gCons (gName 3) (gCons (gName 2) gNil))))) (tt := tYes) (by rfl) sc_play.nd (pi_list (pe_call (ok_traced T) (hr.mono (by decide)) (by rfl) T.g_traced T.F_traced.kp (b_traced T) .nil (passes_call (takes_of rfl rfl rfl rfl) fun _ _ _ _ h => h) (pa_cons (pv 0) (pa_cons (pv 1) pa_nil)))) (blkOk_by (N := ["book", "run", "_", "outcome"]) (sc := defScope s_play) (by decide +kernel)) (fun _ _ _ _ _ => pg_tup rfl (pgs_cons (pg_name (i := 2) sc_play.nd rfl (.inl rfl)) (pgs_cons (pg_name (i := 3) sc_play.nd rfl (.inl rfl)) (pgs_cons (pg_name (i := 2) sc_play.nd rfl (.inl rfl)) pgs_nil)))) (fun _ _ _ _ _ => pts_nil) (fun _ _ _ _ _ => (pv 3)))), ?_⟩
    refine ⟨_, rfl, _, rfl, b, dxb, d, f, e, k, a, ws, bs, xs, rfl, B, hf, k1, k20, R, fun hall H1 p s1 np ⟨ts, hp, hts⟩ => ?_, kF⟩
    have hl : xs.length ≤ 300 := by rw [← (R.run hall).1.len]; exact R.le
    have lt : ts.length = xs.length := by rw [hts.len, List.length_range]
    refine ⟨p, rfl, ⟨_, SqL.of hp⟩, fun D nD => lc_list (xs := ts.map V.ref) (fun i H' => ∃ us : List Addr, H' D = some (.lst (us.map V.ref)) ∧ Same H1 H' ∧ F2 (fun q i => OutAt H' q (outN ⟨f, e, k⟩ xs i) ∧ Srt (usOf xs) (outN ⟨f, e, k⟩ xs i)) us (List.range i))
      ⟨[], upd_same, same_new (Same.refl H1) nD, .nil⟩ (fun i H' _ ⟨_, _, s, _⟩ => SqL.of (s _ _ hp)) ?_ ?_⟩
    · rintro i x H2 hx ⟨us, hD, s2, hus⟩
      rw [List.getElem?_map] at hx
      cases hq : ts[i]? with
      | none => rw [hq] at hx; cases hx
      | some y =>
      rw [hq] at hx
      cases hx
      obtain ⟨j, ej, hy⟩ := hts.at hq
      obtain rfl : j = i := by
        have hi : i < (List.range xs.length).length := (List.getElem?_eq_some_iff.mp ej).1
        rw [List.getElem?_eq_getElem hi, List.getElem_range] at ej
        exact (Option.some.inj ej).symm
      obtain ⟨a1, b1, c1, hy, _, ho, _, hsr⟩ := hy
      have lu : us.length = j := by rw [hus.len, List.length_range]
      have hj : j < ts.length := (List.getElem?_eq_some_iff.mp hq).1
      refine ⟨y, _, rfl, SqT.of (s2 _ _ hy), rfl, _, _, rfl, _, _, rfl, _, _, rfl, rfl, rfl, _, rfl, ?_⟩
      have t8 : SameT H2 (upd H2 D (.lst (us.map V.ref ++ [V.ref b1]))) := SameT.chg hD (fun z => z)
      refine ⟨_, hD, small1000 (by rw [List.length_map, lu]; omega), us ++ [b1], by rw [upd_same, List.map_append]; rfl, fun x o z => by rw [upd_ne (ne_of_none z nD)]; exact s2 x o z, ?_⟩
      rw [List.range_succ]
      exact (hus.mono fun x i hx => ⟨hx.1.sameT t8, hx.2⟩).snoc ⟨(ho.same s2).sameT t8, hsr⟩
    · rintro H2 ⟨us, hD, s2, hus⟩
      rw [List.length_map, lt] at hus
      exact kT hall H2 D (s1.trans s2) (s1.free nD) ⟨us, hD, hus⟩
end
end K11

namespace K11
open PySem L2 SI CM BK OWN MIR StX TX TL
section
variable {w : World} {K : PySem.W.Frag} {mg : Str → Option Value} {base : Heap} (T : Txt w K mg)
/-- what binds, as the law says it -/
theorem bind_none {s w : Int} {r an : Str} (e1 : an ≠ "open") : bindM r (placeM s w none) an = false := by
  unfold bindM
  rw [if_neg e1]
  have hs : placeM s w none ∈ (["free", "late"] : List Str) := by
    show (if w < s then ("free" : Str) else "late") ∈ _
    split <;> decide +kernel
  have : ∀ sp ∈ (["free", "late"] : List Str), (decide (sp = "below") || decide (sp = "above")) = false := by decide +kernel
  rw [this _ hs, Bool.and_false, Bool.and_false]
theorem bind_some {s w g : Int} {r an : Str} : bindM r (placeM s w (some g)) an = (decide (g ≠ s) && (decide (r = "after") && (decide (an = "open") || (decide (an = "skip") && decide (placeM s w (some g) ≠ "under"))))) := by
  unfold bindM
  by_cases c1 : g = s
  · have e1 : placeM s w (some g) = "own" := if_pos c1
    rw [e1, decide_eq_false (fun z : g ≠ s => z c1), Bool.false_and]
    by_cases c2 : an = "open"
    · rw [if_pos c2, decide_eq_false (by intro z; exact z rfl : ¬ (("own" : Str) ≠ "own")), Bool.and_false]
    · rw [if_neg c2, show (decide (("own" : Str) = "below") || decide (("own" : Str) = "above")) = false from by decide +kernel, Bool.and_false, Bool.and_false]
  · rw [decide_eq_true (c1 : g ≠ s), Bool.true_and]
    have e1 : placeM s w (some g) ∈ (["under", "below", "above"] : List Str) := by
      show (if g = s then ("own" : Str) else if s < w then "under" else if s < g then "below" else "above") ∈ _
      rw [if_neg c1]
      split
      · decide +kernel
      · split <;> decide +kernel
    generalize placeM s w (some g) = sp at e1
    have h2 : ∀ sp ∈ (["under", "below", "above"] : List Str), sp ≠ "own" ∧ (decide (sp = "below") || decide (sp = "above")) = decide (sp ≠ "under") := by decide +kernel
    obtain ⟨h3, h4⟩ := h2 sp e1
    by_cases c2 : an = "open"
    · rw [if_pos c2, decide_eq_true h3, decide_eq_true c2, Bool.true_or]
    · rw [if_neg c2, h4, decide_eq_false c2, Bool.false_or]
theorem ins_ex (x : Int) : ∀ M : List Int, M.Pairwise (· ≤ ·) → ∃ N : List Int, N.Perm (x :: M) ∧ N.Pairwise (· ≤ ·)
  | [], _ => ⟨[x], .refl _, List.pairwise_singleton _ _⟩
  | y :: M, h => by
    obtain ⟨h1, h2⟩ := List.pairwise_cons.mp h
    by_cases c : x ≤ y
    · exact ⟨x :: y :: M, .refl _, List.pairwise_cons.mpr ⟨fun z hz => by rcases List.mem_cons.mp hz with e | e; (· omega); (· have := h1 z e; omega), h⟩⟩
    · obtain ⟨N, p, q⟩ := ins_ex x M h2
      refine ⟨y :: N, (p.cons y).trans (List.Perm.swap x y M), List.pairwise_cons.mpr ⟨fun z hz => ?_, q⟩⟩
      rcases List.mem_cons.mp (p.mem_iff.mp hz) with e | e
      · omega
      · exact h1 z e
theorem sort_ex : ∀ L : List Int, ∃ M : List Int, M.Perm L ∧ M.Pairwise (· ≤ ·)
  | [] => ⟨[], .refl _, .nil⟩
  | x :: L => by
    obtain ⟨M, p, q⟩ := sort_ex L
    obtain ⟨N, p2, q2⟩ := ins_ex x M q
    exact ⟨N, p2.trans (p.cons x), q2⟩
/-- the fallen, in any order -/
structure FellL (σ : MIR.S) (s : Int) (U L : List Int) : Prop where
  nd : L.Nodup
  mem : ∀ t, t ∈ L ↔ Reach σ s t
  sub : ∀ t ∈ L, t ∈ U
theorem FellL.isF {σ : MIR.S} {s : Int} {U L : List Int} (h : FellL σ s U L) : IsF σ s (fal σ s) ∧ ∀ t, t ∈ fal σ s ↔ t ∈ L := by
  obtain ⟨M, p, q⟩ := sort_ex L
  obtain ⟨a, b⟩ := perm_asc p q h.nd
  have f : IsF σ s M := ⟨a, fun t => (b t).trans (h.mem t)⟩
  rw [fal_eq f]
  exact ⟨f, b⟩
theorem fal_isF {σ : MIR.S} {s : Int} {U : List Int} (un : U.Nodup) (hout : ∀ t, t ∉ U → σ.bd t = []) (hs : s ∈ U) : IsF σ s (fal σ s) ∧ ∀ t ∈ fal σ s, t ∈ U := by
  classical
  have sub : ∀ t, Reach σ s t → t ∈ U := fun t h => by
    cases h with
    | refl => exact hs
    | step r hu _ =>
      by_cases c : t ∈ U
      · exact c
      · rw [hout t c] at hu; cases hu
  have f : FellL σ s U (U.filter fun t => decide (Reach σ s t)) :=
    ⟨un.sublist List.filter_sublist, fun t => ⟨fun h => of_decide_eq_true (List.mem_filter.mp h).2, fun h => List.mem_filter.mpr ⟨sub t h, decide_eq_true h⟩⟩, fun t h => (List.mem_filter.mp h).1⟩
  exact ⟨f.isF.1, fun t h => sub t ((f.isF.1.2 t).mp h)⟩
theorem askR_met (B : Bkm) (σ : MIR.S) (kd : Str) (s : Int) (n : Str) (v : Int) (m m' : List Str) (an : Str) :
    (askR B σ kd s n v m an).1 = (askR B σ kd s n v m' an).1 ∧ (askR B σ kd s n v m an).2.word = (askR B σ kd s n v m' an).2.word ∧ (askR B σ kd s n v m an).2.val = (askR B σ kd s n v m' an).2.val ∧ (askR B σ kd s n v m an).2.fallen = (askR B σ kd s n v m' an).2.fallen ∧ (askR B σ kd s n v m an).2.met = m := by
  unfold askR
  split
  · exact ⟨rfl, rfl, rfl, rfl, rfl⟩
  split
  · exact ⟨rfl, rfl, rfl, rfl, rfl⟩
  split
  · exact ⟨rfl, rfl, rfl, rfl, rfl⟩
  split
  · exact ⟨rfl, rfl, rfl, rfl, rfl⟩
  split
  · exact ⟨rfl, rfl, rfl, rfl, rfl⟩
  · exact ⟨rfl, rfl, rfl, rfl, rfl⟩
theorem askR_word {B : Bkm} {σ : MIR.S} {kd : Str} {s : Int} {n : Str} {v : Int} {m : List Str} {an : Str} : (askR B σ kd s n v m an).2.word = "wound" ↔ an = "wound" := by
  unfold askR
  split
  · rename_i c; exact ⟨fun z => absurd z (show ("wait" : Str) ≠ "wound" from by decide +kernel), fun z => by rw [z] at c; exact absurd c (by decide +kernel)⟩
  split
  · rename_i c; exact ⟨fun _ => c, fun _ => rfl⟩
  rename_i nw
  split
  · exact ⟨fun z => absurd z (show ("abort" : Str) ≠ "wound" from by decide +kernel), fun z => absurd z nw⟩
  split
  · exact ⟨fun z => absurd z (show ("read" : Str) ≠ "wound" from by decide +kernel), fun z => absurd z nw⟩
  split
  · exact ⟨fun z => absurd z (show ("skip" : Str) ≠ "wound" from by decide +kernel), fun z => absurd z nw⟩
  · exact ⟨fun z => absurd z (show ("put" : Str) ≠ "wound" from by decide +kernel), fun z => absurd z nw⟩
theorem askR_fal {B : Bkm} {σ : MIR.S} {kd : Str} {s : Int} {n : Str} {v : Int} {m : List Str} {an : Str} (nw : an ≠ "wound") : (askR B σ kd s n v m an).2.fallen = [] ∨ (askR B σ kd s n v m an).2.fallen = fal σ s := by
  unfold askR
  rw [if_neg nw]
  split
  · exact .inl rfl
  split
  · exact .inr rfl
  split
  · exact .inl rfl
  split
  · exact .inl rfl
  · exact .inl rfl
theorem ans_write {f : Str → Str} (hf : ∀ x ∈ ENT, f x ∈ chs x) (B : Bkm) (hB : B.f = f) {sp : Str} (hs : sp ∈ SPOTS) (p : Bool) (nw : ansL B "write" sp (metM "write" sp p) ≠ "wound") :
    ansL B "write" sp (metM "write" sp p) ∈ (["put", "skip", "wait", "abort"] : List Str) := by
  have h1 : ∀ sp ∈ SPOTS, ∀ p ∈ [true, false], (match metM "write" sp p with | none => decide (MIR.fixM "write" sp ∈ (["put", "skip", "wait", "abort"] : List Str)) | some e => decide (e ∈ ENT) && (chs e).all fun a => decide (a = "wound") || decide (a ∈ (["put", "skip", "wait", "abort"] : List Str))) = true := by decide +kernel
  have h2 := h1 sp hs p (by cases p <;> simp)
  unfold ansL at nw ⊢
  cases e : metM "write" sp p with
  | none => rw [e] at h2; exact of_decide_eq_true h2
  | some y =>
    rw [e] at h2 nw
    have h3 : (decide (y ∈ ENT) && (chs y).all fun a => decide (a = "wound") || decide (a ∈ (["put", "skip", "wait", "abort"] : List Str))) = true := h2
    rw [Bool.and_eq_true] at h3
    have h4 := List.all_eq_true.mp h3.2 (f y) (hf y (of_decide_eq_true h3.1))
    show B.f y ∈ _
    have nw : B.f y ≠ "wound" := nw
    rw [hB] at nw ⊢
    rw [decide_eq_false nw, Bool.false_or] at h4
    exact of_decide_eq_true h4
theorem reqM_one {B : Bkm} {σ : MIR.S} {kd : Str} {s : Int} {n : Str} {v : Int} (h : (askM B σ kd s n v).2.word ≠ "wound") : reqM B σ kd s n v = askM B σ kd s n v := if_pos h
theorem reqM_two {B : Bkm} {σ : MIR.S} {kd : Str} {s : Int} {n : Str} {v : Int} (h : (askM B σ kd s n v).2.word = "wound") (hs : s ∉ fal σ (hInt (σ.it n))) :
    reqM B σ kd s n v = ((askM B (fallS σ (fal σ (hInt (σ.it n)))) kd s n v).1, ⟨(askM B (fallS σ (fal σ (hInt (σ.it n)))) kd s n v).2.word, metL (entOf σ kd s n) ++ (askM B (fallS σ (fal σ (hInt (σ.it n)))) kd s n v).2.met, (askM B (fallS σ (fal σ (hInt (σ.it n)))) kd s n v).2.val, asc (fal σ (hInt (σ.it n)) ++ (askM B (fallS σ (fal σ (hInt (σ.it n)))) kd s n v).2.fallen)⟩) := by
  have w0 := ask_wound h
  unfold reqM
  rw [w0]
  exact (if_neg (fun z => z rfl)).trans (if_neg hs)
theorem reqM_self {B : Bkm} {σ : MIR.S} {kd : Str} {s : Int} {n : Str} {v : Int} (h : (askM B σ kd s n v).2.word = "wound") (hs : s ∈ fal σ (hInt (σ.it n))) :
    reqM B σ kd s n v = (fallS σ (fal σ (hInt (σ.it n))), ⟨"abort", metL (entOf σ kd s n), .non, fal σ (hInt (σ.it n))⟩) := by
  have w0 := ask_wound h
  unfold reqM
  rw [w0]
  exact (if_neg (fun z => z rfl)).trans (if_pos hs)
/-- the entries that an outcome tells, and how many are waited for -/
def GdO (o : Out) : Prop := (∀ e ∈ o.met, e ∈ ENT) ∧ ∀ l, o.val = .tup l → l.length ≤ 100
theorem asc_len {L : List Int} (nd : L.Nodup) : (asc L).length = L.length := by
  obtain ⟨M, p, q⟩ := sort_ex L
  rw [asc_eq (perm_asc p q nd)]
  exact p.length_eq
theorem ask_met_eq (B : Bkm) (σ : MIR.S) (kd : Str) (s : Int) (n : Str) (v : Int) : (askM B σ kd s n v).2.met = metL (entOf σ kd s n) := (askR_met B σ kd s n v (metL (entOf σ kd s n)) [] (ansL B kd (spotOf σ s n) (entOf σ kd s n))).2.2.2.2
theorem ask_ent (B : Bkm) (σ : MIR.S) {kd : Str} (hk : kd ∈ KINDS) (s : Int) (n : Str) : ∀ e ∈ metL (entOf σ kd s n), e ∈ ENT := fun e he => by
  cases h : entOf σ kd s n with
  | none => rw [h] at he; cases he
  | some y => rw [h] at he; rw [List.mem_singleton.mp he]; exact ent_ENT hk (place_spots _ _ _) h
theorem ask_val (B : Bkm) (σ : MIR.S) (kd : Str) (s : Int) (n : Str) (v : Int) : ∀ l, (askM B σ kd s n v).2.val = .tup l → l.length ≤ 1 := fun l h => by
  rw [ask_R] at h
  have hv : ∀ a, valM (σ.it n) s a ≠ .tup l := fun a z => by
    unfold valM at z
    by_cases c1 : a = "open"
    · rw [if_pos c1] at z
      cases e : (σ.it n).opn with
      | none => rw [e] at z; cases z
      | some hv => rw [e] at z; cases z
    · rw [if_neg c1] at z
      by_cases c2 : a = "old"
      · rw [if_pos c2] at z; cases z
      · rw [if_neg c2] at z; cases z
  unfold askR at h
  split at h
  · cases h; exact Nat.le_refl _
  split at h
  · cases h
  split at h
  · cases h
  split at h
  · exact absurd h (hv _)
  split at h
  · cases h
  · cases h
theorem req_good (B : Bkm) (σ : MIR.S) {kd : Str} (hk : kd ∈ KINDS) (s : Int) (n : Str) (v : Int) : GdO (reqM B σ kd s n v).2 := by
  by_cases h : (askM B σ kd s n v).2.word = "wound"
  · by_cases hs : s ∈ fal σ (hInt (σ.it n))
    · rw [reqM_self h hs]
      exact ⟨ask_ent B σ hk s n, fun l z => (by cases z)⟩
    · rw [reqM_two h hs]
      refine ⟨fun e he => ?_, fun l z => Nat.le_trans (ask_val B _ kd s n v l z) (by decide)⟩
      rcases List.mem_append.mp he with g | g
      · exact ask_ent B σ hk s n e g
      · rw [ask_met_eq] at g; exact ask_ent B _ hk s n e g
  · rw [reqM_one h]
    exact ⟨fun e he => ask_ent B σ hk s n e (by rw [← ask_met_eq B σ kd s n v]; exact he), fun l z => Nat.le_trans (ask_val B σ kd s n v l z) (by decide)⟩
end
end K11

namespace K11
open PySem L2 SI CM BK OWN
section
variable {w : World} {K : PySem.W.Frag} {mg : Str → Option Value} {base : Heap} (T : Txt w K mg)
def spCell (K : PySem.W.Frag) : Sp := fun vs H Q _ => ∃ (a : Addr) (ns : List Int) (k : Nat), vs = [.ref a, .int (k : Int)] ∧ SqL K H a (ns.map V.int) ∧ ns.length ≤ 63 ∧ Q (.int (ns.getD k 0)) H
theorem ok_cell : FnOk PP w K mg base CX0 1 T.f_law_cell T.d_law_cell ["_law_script", "_law_k"] (spCell K) := by
  refine T.F_law_cell.ok sc_law_cell (fun vs H Q E h => ?_) (fun cdv A outer s H vs Q E hr h => ?_)
  · obtain ⟨a, ns, k, rfl, _⟩ := h
    rfl
  · obtain ⟨a, ns, i, rfl, hS, hlen, k⟩ := h
    refine ⟨_, pss_cons (ps_if (pt_cmpR op_lt (pv 1) (pe_callB call_len_seq (by rfl) T.n_len PySem.boot_len (pa_cons (pv 0) pa_nil)) (nomark _)) (pss_one (ps_ret (pe_ix ix_list (pv 0) (pv 1) (fun _ _ => rfl)))) pss_nil) (pss_one (ps_ret pe_int)), ?_⟩
    refine ⟨_, rfl, _, rfl, a, _, rfl, .inl hS, _, _, rfl, rfl, _, rfl, ?_⟩
    rw [List.length_map]
    by_cases h : (i : Int) < (ns.length : Int)
    · rw [decide_eq_true h]
      have hi : i < ns.length := by omega
      refine iteT ⟨_, rfl, _, rfl, a, _, _, .int (ns.getD i 0), rfl, rfl, hS, atI_nat (by rw [List.getElem?_map, List.getElem?_eq_getElem hi, List.getD_eq_getElem?_getD, List.getElem?_eq_getElem hi] <;> rfl), k⟩
    · rw [decide_eq_false h]
      have hi : ns.length ≤ i := by omega
      refine iteF ?_
      rw [List.getD_eq_getElem?_getD, List.getElem?_eq_none hi] at k
      exact k
/-- xs[i] of a list of ints -/
theorem ints_at {ds : List Int} {i : Nat} {x : V} (h : (ds.map V.int)[i]? = some x) : ∃ d, ds[i]? = some d ∧ x = V.int d := by
  rw [List.getElem?_map] at h
  cases q : ds[i]? with
  | none =>
    rw [q] at h
    cases h
  | some d =>
    rw [q] at h
    exact ⟨d, rfl, (Option.some.inj h).symm⟩
/-- the row's list, what is left of the cell, the mixed number -/
def rowS (c b : Int) : Nat → List Int × Int × Int
  | 0 => ([], c, (c * 48271 + 69621) % 2147483647)
  | i + 1 => if (10 : Int) ^ (18 : Int).toNat ≤ c then ((rowS c b i).1 ++ [(rowS c b i).2.1 % b], (rowS c b i).2.1 / b, (rowS c b i).2.2)
    else ((rowS c b i).1 ++ [((((rowS c b i).2.2 * 48271 + 11) % 2147483647 * 16807 + (i : Int)) % 2147483629 / 1009) % b], (rowS c b i).2.1, ((((rowS c b i).2.2 * 48271 + 11) % 2147483647) * 16807 + (i : Int)) % 2147483629)
def rowF (c : Int) (n : Nat) (b : Int) : List Int := (rowS c b n).1
theorem rowS_big {c b : Int} (i : Nat) (h : (10 : Int) ^ (18 : Int).toNat ≤ c) : rowS c b (i + 1) = ((rowS c b i).1 ++ [(rowS c b i).2.1 % b], (rowS c b i).2.1 / b, (rowS c b i).2.2) := if_pos h
theorem rowS_low {c b : Int} (i : Nat) (h : ¬ (10 : Int) ^ (18 : Int).toNat ≤ c) : rowS c b (i + 1) = ((rowS c b i).1 ++ [((((rowS c b i).2.2 * 48271 + 11) % 2147483647 * 16807 + (i : Int)) % 2147483629 / 1009) % b], (rowS c b i).2.1, ((((rowS c b i).2.2 * 48271 + 11) % 2147483647) * 16807 + (i : Int)) % 2147483629) := if_neg h
def spRowD : Sp := fun vs H Q _ => ∃ (c : Int) (n : Nat) (b : Int), vs = [.int c, .int (n : Int), .int b] ∧ 0 < b ∧ b < 1000 ∧ n ≤ 1000 ∧
  ∀ (H' : Hp) (p : Addr), Same H H' → H p = none → H' p = some (.lst ((rowF c n b).map V.int)) → (rowF c n b).length = n → (∀ d ∈ rowF c n b, 0 ≤ d ∧ d < b) → Q (.ref p) H'
def spRow : Sp := fun vs H Q _ => ∃ (c : Int) (n : Nat) (b : Int), vs = [.int c, .int (n : Int), .int b] ∧ 0 < b ∧ b < 1000 ∧ n ≤ 1000 ∧
  ∀ (H' : Hp) (p : Addr) (ds : List Int), Same H H' → H p = none → H' p = some (.lst (ds.map V.int)) → ds.length = n → (∀ d ∈ ds, 0 ≤ d ∧ d < b) → Q (.ref p) H'
theorem ok_rowD : FnOk PP w K mg base CX0 1 T.f_law_row T.d_law_row ["_law_cell_here", "_law_count", "_law_base"] spRowD := by
  refine T.F_law_row.ok sc_law_row (fun vs H Q E h => ?_) (fun cdv A outer s H vs Q E hr h => ?_)
  · obtain ⟨c, n, b, rfl, _⟩ := h
    rfl
  · obtain ⟨c, n, b, rfl, b0, b1, hn, k⟩ := h
    refine ⟨_, pss_cons (ps_set (i := 3) sc_law_row.nd rfl (.inl rfl) (pe_lst pa_nil))
 (pss_cons (ps_set (i := 4) sc_law_row.nd rfl (.inl rfl) (pv 0))
 (pss_cons (ps_set (i := 5) sc_law_row.nd rfl (.inl rfl) (pe_op op_mod (pe_callTy call_int1 (by rfl) T.n_int (by decide +kernel) (pa_cons (pe_op op_add (pe_op op_mul (pv 0) pe_int) pe_int) pa_nil)) pe_int))
 (pss_cons (ps_for PassesOwn.never rfl (pi_range1 rfl T.n_range (pa_cons (pv 1) pa_nil)) (pg_name (i := 6) sc_law_row.nd rfl (.inl rfl))
 (pss_one (ps_if (pt_cmpR op_ge (pv 0) (pe_op op_pow pe_int pe_int) (nomark _))
 (pss_cons (ps_expr (pe_bm PySem.F.plainAttrs_list PySem.F.slot_list_append PySem.F.type_list_append mt_append (pv 3) (pa_cons (pe_op op_mod (pe_callTy call_int1 (by rfl) T.n_int (by decide +kernel) (pa_cons (pv 4) pa_nil)) (pv 2)) pa_nil)))
 (pss_one (ps_set (i := 4) sc_law_row.nd rfl (.inl rfl) (pe_op op_fdiv (pv 4) (pv 2)))))
 (pss_cons (ps_set (i := 5) sc_law_row.nd rfl (.inl rfl) (pe_op op_mod (pe_callTy call_int1 (by rfl) T.n_int (by decide +kernel) (pa_cons (pe_op op_add (pe_op op_mul (pv 5) pe_int) pe_int) pa_nil)) pe_int))
 (pss_cons (ps_set (i := 5) sc_law_row.nd rfl (.inl rfl) (pe_op op_mod (pe_callTy call_int1 (by rfl) T.n_int (by decide +kernel) (pa_cons (pe_op op_add (pe_op op_mul (pv 5) pe_int) (pv 6)) pa_nil)) pe_int))
 (pss_one (ps_expr (pe_bm PySem.F.plainAttrs_list PySem.F.slot_list_append PySem.F.type_list_append mt_append (pv 3) (pa_cons (pe_op op_mod (pe_callTy call_int1 (by rfl) T.n_int (by decide +kernel) (pa_cons (pe_op op_fdiv (pv 5) pe_int) pa_nil)) (pv 2)) pa_nil)))))))))
 (pss_one (ps_ret (pv 3)))))), ?_⟩
    have m1 : (0 : Int) < 2147483647 := by decide
    have m2 : (0 : Int) < 2147483629 := by decide
    refine ⟨Nat.zero_le _, fun R nR => ⟨_, rfl, _, rfl, _, _, rfl, rfl, .inr ⟨by decide, by decide⟩, _, _, rfl, rfl, .inl ⟨_, rfl, _, _, rfl, rfl, m1, ?_⟩⟩⟩
    refine ⟨_, rfl, _, rfl, by omega, by omega, for_range (lo := 0) (n := n) (fun i σ H' => ∃ (ds : List Int) (v4 v5 : Int) (v6 : Option V), ds.length = i ∧ (∀ d ∈ ds, 0 ≤ d ∧ d < b) ∧ H' R = some (.lst (ds.map V.int)) ∧ Same H H' ∧ σ = [some (.int c), some (.int (n : Int)), some (.int b), some (.ref R), some (.int v4), some (.int v5), v6] ∧ (ds, v4, v5) = rowS c b i)
      ⟨[], c, _, _, rfl, (fun _ h => by cases h), upd_same, same_new (Same.refl H) nR, rfl, rfl⟩ ?_ ?_⟩
    · rintro i σ H' hi ⟨ds, v4, v5, v6, hl, hd, hR, sm, rfl, er⟩
      have stp : ∀ (d : Int), 0 ≤ d → d < b → (∀ x ∈ ds ++ [d], 0 ≤ x ∧ x < b) ∧ (upd H' R (.lst (ds.map V.int ++ [.int d]))) R = some (.lst ((ds ++ [d]).map V.int)) ∧ Same H (upd H' R (.lst (ds.map V.int ++ [.int d]))) := by
        intro d d0 d1
        refine ⟨fun x hx => ?_, ?_, fun bb o z => ?_⟩
        · rcases List.mem_append.mp hx with h | h
          · exact hd x h
          · rw [List.mem_singleton.mp h]
            exact ⟨d0, d1⟩
        · rw [upd_same, List.map_append]
          rfl
        · rw [upd_ne (ne_of_none z nR)]
          exact sm bb o z
      have lenR : (ds.map V.int).length < sizeLine := small1000 (by rw [List.length_map]; omega)
      have e0 := fun x : Int => Int.emod_nonneg x (Int.ne_of_gt b0)
      have e1 := fun x : Int => Int.emod_lt_of_pos x b0
      refine ⟨_, rfl, _, _, rfl, rfl, ⟨by decide, by decide, by decide⟩, _, _, rfl, rfl, _, rfl, ?_⟩
      refine ite2 (fun hb => ?_) (fun hb => ?_)
      · obtain ⟨s1, s2, s3⟩ := stp (v4 % b) (e0 _) (e1 _)
        exact ⟨_, rfl, .inl ⟨rfl, _, SqL.of hR⟩, _, rfl, .inl ⟨_, rfl, _, rfl, _, _, rfl, rfl, b0, R, _, _, rfl, rfl, hR, lenR, _, rfl, _, rfl, _, _, rfl, rfl, ⟨b0, by omega⟩, ds ++ [v4 % b], _, _, _, by simp [hl], s1, s2, s3, rfl, by rw [rowS_big i (of_decide_eq_true hb), ← er]⟩⟩
      · refine ⟨_, rfl, _, _, rfl, rfl, .inr ⟨by decide, by decide⟩, _, _, rfl, rfl, .inl ⟨_, rfl, _, _, rfl, rfl, m1, ?_⟩⟩
        refine ⟨_, rfl, _, _, rfl, rfl, .inr ⟨by decide, by decide⟩, _, rfl, _, _, rfl, rfl, .inl ⟨_, rfl, _, _, rfl, rfl, m2, ?_⟩⟩
        refine ⟨_, rfl, .inl ⟨rfl, _, SqL.of hR⟩, _, rfl, _, _, rfl, rfl, ⟨by decide, by decide⟩, .inl ⟨_, rfl, _, rfl, _, _, rfl, rfl, b0, R, _, _, rfl, rfl, hR, lenR, ?_⟩⟩
        exact ⟨ds ++ [_], _, _, _, by simp [hl], (stp _ (e0 _) (e1 _)).1, (stp _ (e0 _) (e1 _)).2.1, (stp _ (e0 _) (e1 _)).2.2, rfl, by rw [rowS_low i (fun z => hb (decide_eq_true z)), ← er]; simp only [Int.zero_add]⟩
    · rintro σ H' ⟨ds, v4, v5, v6, hl, hd, hR, sm, rfl, er⟩
      have ed : ds = rowF c n b := congrArg Prod.fst er
      rw [ed] at hl hd hR
      exact ⟨_, rfl, k H' R sm nR hR hl hd⟩
theorem ok_row : FnOk PP w K mg base CX0 1 T.f_law_row T.d_law_row ["_law_cell_here", "_law_count", "_law_base"] spRow :=
  (ok_rowD T).imp fun vs H Q E ⟨c, n, b, e, b0, b1, hn, k⟩ => ⟨c, n, b, e, b0, b1, hn, fun H' p => k H' p (rowF c n b)⟩

def spEntries : Sp := fun vs H Q _ => vs = [] ∧ ∀ H' p, Same H H' → H p = none → H' p = some (.lst (ENT.map V.str)) → Q (.ref p) H'
theorem ok_entries : FnOk PP w K mg base CX0 1 T.f_law_entries T.d_law_entries [] spEntries := by
  refine T.F_law_entries.ok sc_law_entries (fun vs H Q E h => ?_) (fun cdv A outer s H vs Q E hr h => ?_)
  · obtain ⟨rfl, _⟩ := h
    rfl
  · obtain ⟨rfl, k⟩ := h
    refine ⟨_, pss_cons (ps_set (i := 0) sc_law_entries.nd rfl (.inl rfl) (pe_lst (pa_cons pe_str (pa_cons pe_str (pa_cons pe_str (pa_cons pe_str pa_nil))))))
 (pss_cons (ps_set (i := 0) sc_law_entries.nd rfl (.inl rfl) (pe_op op_cat (pv 0) (pe_lst (pa_cons pe_str (pa_cons pe_str (pa_cons pe_str (pa_cons pe_str pa_nil)))))))
 (pss_cons (ps_set (i := 0) sc_law_entries.nd rfl (.inl rfl) (pe_op op_cat (pv 0) (pe_lst (pa_cons pe_str (pa_cons pe_str (pa_cons pe_str pa_nil))))))
 (pss_one (ps_ret (pe_op op_cat (pv 0) (pe_lst (pa_cons pe_str (pa_cons pe_str (pa_cons pe_str pa_nil))))))))), ?_⟩
    have l4 : 4 ≤ sizeLine := by decide
    have l3 : 3 ≤ sizeLine := by decide
    refine ⟨l4, fun p1 n1 => ?_⟩
    have s1 := same_new (o := .lst [.str "read late", .str "read under", .str "read below", .str "read above"]) (Same.refl H) n1
    refine ⟨_, rfl, l4, fun p2 n2 => ?_⟩
    have s2 := same_new (o := .lst [.str "write late", .str "write under", .str "write below", .str "write above"]) s1 n2
    refine ⟨p1, p2, _, _, rfl, rfl, kp n2 upd_same, upd_same, (by decide : 4 + 4 ≤ sizeLine), fun p3 n3 => ?_⟩
    have s3 := same_new (o := .lst ((ENT.take 8).map V.str)) s2 n3
    refine ⟨_, rfl, l3, fun p4 n4 => ?_⟩
    have s4 := same_new (o := .lst [.str "write free passed", .str "write own passed", .str "write late passed"]) s3 n4
    refine ⟨p3, p4, _, _, rfl, rfl, kp n4 upd_same, upd_same, (by decide : 8 + 3 ≤ sizeLine), fun p5 n5 => ?_⟩
    have s5 := same_new (o := .lst ((ENT.take 11).map V.str)) s4 n5
    refine ⟨_, rfl, l3, fun p6 n6 => ?_⟩
    have s6 := same_new (o := .lst [.str "write under passed", .str "write below passed", .str "write above passed"]) s5 n6
    refine ⟨p5, p6, _, _, rfl, rfl, kp n6 upd_same, upd_same, (by decide : 11 + 3 ≤ sizeLine), fun p7 n7 => ?_⟩
    exact k _ p7 (same_new (o := .lst (ENT.map V.str)) s6 n7) (s6.free n7) upd_same
def spChoices : Sp := fun vs H Q _ => ∃ e, vs = [.str e] ∧ ∀ H' p, Same H H' → H p = none → H' p = some (.lst ((chs e).map V.str)) → Q (.ref p) H'
theorem ok_choices : FnOk PP w K mg base CX0 1 T.f_law_choices T.d_law_choices ["_law_name"] spChoices := by
  refine T.F_law_choices.ok sc_law_choices (fun vs H Q E h => ?_) (fun cdv A outer s H vs Q E hr h => ?_)
  · obtain ⟨e, rfl, _⟩ := h
    rfl
  · obtain ⟨e, rfl, k⟩ := h
    refine ⟨_, pss_cons (ps_if (pt_cmpR op_eq (pv 0) pe_str (nomark _))
 (pss_one (ps_ret (pe_lst (pa_cons pe_str (pa_cons pe_str (pa_cons pe_str pa_nil))))))
 pss_nil)
 (pss_cons (ps_if (pt_cmpR op_eq (pv 0) pe_str (nomark _))
 (pss_one (ps_ret (pe_lst (pa_cons pe_str (pa_cons pe_str (pa_cons pe_str (pa_cons pe_str (pa_cons pe_str pa_nil))))))))
 pss_nil)
 (pss_cons (ps_if (pt_cmpR op_in_seq (pv 0) (pe_lst (pa_cons pe_str (pa_cons pe_str pa_nil))) rfl)
 (pss_one (ps_ret (pe_lst (pa_cons pe_str (pa_cons pe_str (pa_cons pe_str (pa_cons pe_str pa_nil)))))))
 pss_nil)
 (pss_cons (ps_if (pt_cmpR op_in_seq (pv 0) (pe_lst (pa_cons pe_str (pa_cons pe_str pa_nil))) rfl)
 (pss_one (ps_ret (pe_lst (pa_cons pe_str (pa_cons pe_str pa_nil)))))
 pss_nil)
 (pss_cons (ps_if (pt_cmpR op_in_seq (pv 0) (pe_lst (pa_cons pe_str (pa_cons pe_str pa_nil))) rfl)
 (pss_one (ps_ret (pe_lst (pa_cons pe_str (pa_cons pe_str pa_nil)))))
 pss_nil)
 (pss_one (ps_ret (pe_lst (pa_cons pe_str (pa_cons pe_str (pa_cons pe_str (pa_cons pe_str pa_nil))))))))))), ?_⟩
    have l2 : 2 ≤ sizeLine := by decide
    have l3 : 3 ≤ sizeLine := by decide
    have l4 : 4 ≤ sizeLine := by decide
    have l5 : 5 ≤ sizeLine := by decide
    have ds : ∀ a b : Str, decide (V.str a = V.str b) = decide (a = b) := fun a b => decide_eq_decide.mpr ⟨V.str.inj, congrArg _⟩
    refine ⟨_, rfl, rfl, _, rfl, ?_⟩
    rw [ds]
    by_cases h1 : e = "read late"
    · rw [decide_eq_true h1]
      have ec : chs e = [("last" : Str), "old", "abort"] := by unfold chs; rw [if_pos h1]
      rw [ec] at k
      exact iteT ⟨l3, fun p n => k _ p (same_new (Same.refl H) n) n upd_same⟩
    rw [decide_eq_false h1]
    refine iteF ⟨_, rfl, rfl, _, rfl, ?_⟩
    rw [ds]
    by_cases h2 : e = "read under"
    · rw [decide_eq_true h2]
      have ec : chs e = [("last" : Str), "old", "open", "wait", "abort"] := by unfold chs; rw [if_neg h1, if_pos h2]
      rw [ec] at k
      exact iteT ⟨l5, fun p n => k _ p (same_new (Same.refl H) n) n upd_same⟩
    rw [decide_eq_false h2]
    have mem2 : ∀ a b : Str, inV (.str e) [.str a, .str b] = decide (e = a ∨ e = b) := fun a b => by
      have z := inV_str e [a, b]
      simp only [List.mem_cons, List.not_mem_nil, or_false] at z
      exact z
    refine iteF ⟨_, rfl, l2, fun p1 n1 => ⟨p1, _, rfl, .inl (SqL.of upd_same), rfl, rfl, _, rfl, ?_⟩⟩
    have s1 := same_new (o := .lst [.str "read below", .str "read above"]) (Same.refl H) n1
    rw [if_neg Bool.false_ne_true, mem2]
    by_cases h3 : e = "read below" ∨ e = "read above"
    · rw [decide_eq_true h3]
      have ec : chs e = [("last" : Str), "open", "wait", "abort"] := by unfold chs; rw [if_neg h1, if_neg h2, if_pos h3]
      rw [ec] at k
      exact iteT ⟨l4, fun p n => k _ p (same_new s1 n) (s1.free n) upd_same⟩
    rw [decide_eq_false h3]
    refine iteF ⟨_, rfl, l2, fun p2 n2 => ⟨p2, _, rfl, .inl (SqL.of upd_same), rfl, rfl, _, rfl, ?_⟩⟩
    have s2 := same_new (o := .lst [.str "write free passed", .str "write own passed"]) s1 n2
    rw [if_neg Bool.false_ne_true, mem2]
    by_cases h4 : e = "write free passed" ∨ e = "write own passed"
    · rw [decide_eq_true h4]
      have ec : chs e = [("put" : Str), "abort"] := by unfold chs; rw [if_neg h1, if_neg h2, if_neg h3, if_pos h4]
      rw [ec] at k
      exact iteT ⟨l2, fun p n => k _ p (same_new s2 n) (s2.free n) upd_same⟩
    rw [decide_eq_false h4]
    refine iteF ⟨_, rfl, l2, fun p3 n3 => ⟨p3, _, rfl, .inl (SqL.of upd_same), rfl, rfl, _, rfl, ?_⟩⟩
    have s3 := same_new (o := .lst [.str "write late", .str "write late passed"]) s2 n3
    rw [if_neg Bool.false_ne_true, mem2]
    by_cases h5 : e = "write late" ∨ e = "write late passed"
    · rw [decide_eq_true h5]
      have ec : chs e = [("skip" : Str), "abort"] := by unfold chs; rw [if_neg h1, if_neg h2, if_neg h3, if_neg h4, if_pos h5]
      rw [ec] at k
      exact iteT ⟨l2, fun p n => k _ p (same_new s3 n) (s3.free n) upd_same⟩
    rw [decide_eq_false h5]
    have ec : chs e = [("skip" : Str), "wait", "wound", "abort"] := by unfold chs; rw [if_neg h1, if_neg h2, if_neg h3, if_neg h4, if_neg h5]
    rw [ec] at k
    exact iteF ⟨l4, fun p n => k _ p (same_new s3 n) (s3.free n) upd_same⟩
end
end K11

/-! C(e, k = v) whose __init__ may raise, within a try. -/
namespace EX
open PySem PySem.Spec PyProof.Rows L2
section
variable {X : Cx} {CX : CXT} {k n : Nat} {f C : Addr} {fd : FuncData} {ps ks : List Str} {sp : Sp} {ES : L2.St → XK} {x : Str} {p pos : Pos} {e : Expr} {es : List Expr} {kws : List Keyword} {t tk : TA} {g : List Value → List Value → List Value} {gV : List V → List V → List V}
def tMakeKS (C : Addr) (n m : Nat) (sp : Sp) (gV : List V → List V → List V) (ES : L2.St → XK) (t tk : TA) : TE := fun σ H Q => t σ H fun vs H1 => tk σ H1 fun zs H2 => vs.length = n ∧ zs.length = m ∧
  ∀ y dy, H2 y = none → H2 dy = none → dy ≠ y → sp (gV (.ref y :: vs) zs) (upd (upd H2 dy (.own y)) y (.ins C dy [])) (fun v H3 => v = .non ∧ Q (.ref y) H3) (ES σ)
theorem pe_makeKS (M : Mk X.K C f) (F : FnOk X.prog X.w X.K X.mg X.base CX k f fd ps sp) (hr : Room (k + 1) X.A) (hg : Gl X x) (hm : X.mg x = some (.ref C)) (hb : KBn X.K fd ps (n + 1) ks g gV) (hx : ∀ σ, PassesAt CX X σ (ES σ)) (ha : PA X (e :: es) t) (hkw : PK X kws tk)
    (hall : (backToKw pos (keywordEach kws X.env)).all (·.1.isSome) = true := by rfl) (hks : (backToKw pos (keywordEach kws X.env)).filterMap (·.1) = ks := by rfl) (hdb : (x == ("__debug__" : Str)) = false := by decide)
    (he : starEach (e :: es) X.env = (false, eval e X.env) :: starEach es X.env := by rfl) (hpl : ((backTo pos (starEach (e :: es) X.env)).any (·.1) || (backToKw pos (keywordEach kws X.env)).any (·.1.isNone)) = false := by rfl) :
    PE X (.Call (.Name x p) (e :: es) kws pos) (tMakeKS C n ks.length sp gV ES t tk) := by
  refine ⟨fun pins s σ H Q I h => wpAny_Call_Name_kw (ld_glob I hg hm ?_ hdb)⟩
  refine PySem.W.callWith_KW (h₀ := X.base) I.ok.mod.kin M.kp hall (thn (ha.run pos pins s σ H _ I h) fun us s1 ⟨vs, H1, I1, r, q⟩ => ?_) hpl he
  refine thn (hkw.run pos pins s1 σ H1 _ I1 q) fun ws s2 ⟨zs, H2, I2, rz, l1, l2, q2⟩ => ⟨I2.kIn, ?_⟩
  rw [hks]
  have now := q2 (s2.heap.objs.size + 1) s2.heap.objs.size (I2.hok.fresh (Nat.le_succ _)) (I2.hok.fresh (Nat.le_refl _)) (Nat.ne_of_lt (Nat.lt_succ_self _))
  have J := Inv.made (C := C) I2
  have r1 : Vals (V.ref (s2.heap.objs.size + 1) :: vs) (Value.ref (s2.heap.objs.size + 1) :: us) := .cons rfl r
  have len1 : (Value.ref (s2.heap.objs.size + 1) :: us).length = n + 1 := by rw [List.length_cons, ← r.length, l1]
  have run := F.run _ X.stack _ _ ⟨Value.ref (s2.heap.objs.size + 1) :: us, ks.zip ws⟩ (g (Value.ref (s2.heap.objs.size + 1) :: us) ws) _ _ (ES σ) (hr.make C us (ks.zip ws)) (J.env0.make C us (ks.zip ws))
    (hb.to _ (Value.ref (s2.heap.objs.size + 1) :: us) ws J.kIn len1 (rz.length.symm.trans l2)) (hb.rel r1 rz) now
  refine wpAny_call (make_map (f := f) I2.kIn M.makes M.init (beq_iff_eq.mp M.fn) (codeAny_mono run fun res s3 done => ?_))
  match res, done with
  | .error err, done => exact hx σ pins _ _ err s3 J done
  | .ok (.ret u), done =>
    obtain ⟨v, H', I3, rv, ev, q3⟩ := J.after done
    subst ev
    exact ⟨rv, ⟨V.ref (s2.heap.objs.size + 1), H', I3, rfl, q3⟩⟩
  | .ok .next, done => exact done.elim
  | .ok .brk, done => exact done.elim
  | .ok .cont, done => exact done.elim
end
end EX
namespace EX
open PySem PySem.Spec PyProof.Rows L2 CM
/-- isinstance of the caught error, whatever own class it has -/
def rIsE (K : PySem.W.Frag) (a : Addr) (cls : Value) (d : Option Addr) : List V → Hp → VK → Prop := fun xs H Q => ∃ D, ExcC K D ∧ rIsD K D a cls d xs H Q
theorem call_isE {X : Cx} {a : Addr} {cls : Value} {d : Option Addr} {oe : Obj} {pn : List (Addr × Obj)} (hz : Zc cls d oe) (hf : ∃ vs, oe.data = .fields vs) : CallR (X.suite a ((a, oe) :: pn)) (.builtin "isinstance") (rIsE X.K a cls d) := by
  intro pins s σ H xs us Q I r h
  obtain ⟨D, C, h⟩ := h
  exact call_isD C hz hf pins s σ H xs us Q I r h
/-- flat values as data -/
def dv : V → PyData
  | .bl b => .bool b
  | .int i => .int i
  | .str x => .str x
  | _ => .none
def dOk : V → Bool
  | .non => true
  | .bl _ => true
  | .int _ => true
  | .str x => PyData.strOk x
  | _ => false
theorem dOk_flat {v : V} (h : dOk v = true) : flatV v = true := by
  cases v with
  | byt _ => cases h
  | flt _ => cases h
  | ref _ => cases h
  | ty _ => cases h
  | _ => rfl
theorem dp_flat {K : PySem.W.Frag} {H : Hp} {v : V} (h : dOk v = true) : Dp K H v (dv v) := by
  cases v with
  | non => exact .non
  | bl b => exact .bl b
  | int i => exact .int i
  | str x => exact .str x
  | _ => cases h
theorem dp_list {K : PySem.W.Frag} {H : Hp} {p : Addr} {xs : List V} (h : SqL K H p xs) (ok : xs.all dOk = true) : Dp K H (.ref p) (.list (xs.map dv)) := by
  refine .lst h ?_
  clear h
  induction xs with
  | nil => exact .nil
  | cons x r ih =>
    rw [List.all_cons, Bool.and_eq_true] at ok
    exact .cons (dp_flat ok.1) (ih ok.2)
theorem dv_shaped {xs : List V} (ok : xs.all dOk = true) : SeqAt.shaped (.list (xs.map dv)) = true := by
  have all0 : PyData.canLayAll0 (xs.map dv) = true := by
    induction xs with
    | nil => rfl
    | cons x r ih =>
      rw [List.all_cons, Bool.and_eq_true] at ok
      rw [List.map_cons]
      have hx : PyData.canLay0 (dv x) = true := by
        cases x with
        | str z => exact ok.1
        | non => rfl
        | bl b => rfl
        | int i => rfl
        | _ => cases ok.1
      simp [PyData.canLayAll0, hx, ih ok.2]
  have dep : PyData.depthAll (xs.map dv) ≤ 1 := by
    clear all0
    induction xs with
    | nil => simp [PyData.depthAll]
    | cons x r ih =>
      rw [List.all_cons, Bool.and_eq_true] at ok
      rw [List.map_cons]
      have hx : PyData.depth (dv x) ≤ 1 := by cases x <;> simp [dv, PyData.depth]
      have := ih ok.2
      simp only [PyData.depthAll]
      omega
  simp [SeqAt.shaped, PyData.canLay0, PyData.depth, all0]
  omega
end EX

/-! `if "text" in e: ..`: within, a token is out; `x = e` where e wants one. -/
namespace OWN
open PySem PySem.Spec PyProof.Rows L2 CwR
section
variable {X : Cx}
/-- a test of which a written text is a part -/
theorem ps_if_txt {x : Str} {j : Nat} {cp cpos pos : Pos} {b : Expr} {tb : TE} {r : R2} {B C : List Stmt} {t u : TS} (ho : OpR X (compareOp .In) r) (hb : PE X b tb) (hm : behindInMarks .In b = false) (ha : PSsT X B t) (hc : PSsT X C u) :
    PS X (.If (.Compare (.Constant (.str x) j cp) [.In] [b] cpos) B C pos) (tIfS (tTest (tOp r (tC (.str x)) tb)) t u) := by
  refine ⟨fun pins s σ H D I h => ?_⟩
  refine wpAny_If (wpAny_isTrue_Compare1 (Calls.Constant_str ?_) hm)
  have I1 : Inv X pins σ H { s with toks := s.toks + 1 } := I.tok (s.toks + 1)
  refine wpAny_mono (PySem.wpAny_toks (hb.run pins _ σ H _ I1 h)) (fun v s2 z => ?_) fun _ _ z => z.2
  obtain ⟨k2, y, H2, I2, r2, q2⟩ := z
  have k2 : s.toks + 1 ≤ s2.toks := k2
  refine wpAny_mono (PySem.wpAny_toks (ho pins s2 σ H2 (.str x) y _ v _ I2 ⟨s.toks, rfl⟩ r2 q2)) (fun c s3 z => ?_) fun _ _ z => z.2
  obtain ⟨k3, zv, H3, I3, r3, k, e, q3⟩ := z
  subst e
  cases r3
  refine wpAny_truthy_bool ?_
  cases k with
  | true => exact ha pins s3 σ H3 D (by omega) I3 q3
  | false => exact hc pins s3 σ H3 D (by omega) I3 q3
theorem pst_set {i : Nat} {x : Str} {e : Expr} {te : TE} {pos' pos : Pos} (hN : X.N.Nodup) (hi : X.N[i]? = some x) (hx : Loc X.env.scope x) (he : PET X e te) (hs : swapsWith e (some (.Name x pos')) pos.line X.env = pure false := by rfl)
    (hf : X.fn x = true ∨ X.env.scope.names.lookup x = some .local := by first | exact .inl rfl | exact .inr rfl | assumption) : PST X (.Assign [.Name x pos'] e pos) (tAsg te (gName i)) := by
  intro pins s σ H D h0 I h
  refine wpAny_Assign_Name (thn (he pins s σ H _ h0 I h) fun v s1 ⟨y, H1, I1, r1, q1⟩ => ?_) hs
  exact store_ok I1 hN hi hx r1 (fun s2 I2 => ⟨_, H1, I2, q1⟩) hf
end
end OWN

namespace K11
open PySem L2 SI CM BK OWN MIR StX TX TL
section
variable {w : World} {K : PySem.W.Frag} {mg : Str → Option Value} {base : Heap} (T : Txt w K mg)
abbrev VN (m : Nat) : V := .int (m : Int)
theorem sig_len : (TL.tl SIG).length = 36 := by decide +kernel
theorem join_ones : ∀ cs : List Nat, joinL [] (cs.map fun c => [c]) = cs
  | [] => rfl
  | [c] => rfl
  | c :: d :: r => by
    have ih := join_ones (d :: r)
    show [c] ++ ([] ++ joinL [] ((d :: r).map fun c => [c])) = c :: d :: r
    rw [ih]; rfl
/-- a name of an item -/
def NmOk (z : Str) : Prop := 1 ≤ z.length ∧ z.length ≤ 8 ∧ ∀ c ∈ TL.tl z, c ∈ TL.tl SIG
theorem NmOk.name {z : Str} (h : NmOk z) : nameV (.str z) = true := by
  show (decide (1 ≤ z.length) && (decide (z.length ≤ 8) && (TL.tl z).all fun c => decide (c ∈ TL.tl SIG))) = true
  rw [decide_eq_true h.1, decide_eq_true h.2.1, List.all_eq_true.mpr fun c hc => decide_eq_true (h.2.2 c hc)]
  rfl
def spNames : Sp := fun vs H Q _ => ∃ c : Int, vs = [.int c] ∧ ∀ (H' : Hp) (p : Addr) (a b : Str), Same H H' → H p = none → H' p = some (.lst [.str a, .str b]) → NmOk a → NmOk b → a ≠ b → Q (.ref p) H'
def sgA (d : Int) : Nat := (atI (TL.tl SIG) d).getD 0
def sgS (L : List Int) : List Str := L.map fun d => (⟨#[sgA d]⟩ : Str)
def nmA (c : Int) : Str := Txt.join (Str.ofString "") (sgS ((rowF c 9 36).take (1 + (c % 7).toNat)))
def nmB (c : Int) : Str := nmA c ++ (⟨#[sgA ((rowF c 9 36).getD 8 0)]⟩ : Str)
def spNamesD : Sp := fun vs H Q _ => ∃ c : Int, vs = [.int c] ∧ ∀ (H' : Hp) (p : Addr), Same H H' → H p = none → H' p = some (.lst [.str (nmA c), .str (nmB c)]) → NmOk (nmA c) → NmOk (nmB c) → nmA c ≠ nmB c → Q (.ref p) H'
theorem ok_namesD : FnOk PP w K mg base CX0 2 T.f_law_names T.d_law_names ["_law_cell_here"] spNamesD := by
  refine T.F_law_names.ok sc_law_names (fun vs H Q E h => ?_) (fun cdv A outer s H vs Q E hr h => ?_)
  · obtain ⟨c, rfl, _⟩ := h
    rfl
  · obtain ⟨c, rfl, k⟩ := h
    refine ⟨_, pss_cons (ps_set (i := 1) sc_law_names.nd rfl (.inr rfl) pe_str)
 (pss_cons (ps_set (i := 2) sc_law_names.nd rfl (.inl rfl) (pe_call (ok_rowD T) (hr.mono (by decide)) (by rfl) T.g_law_row T.F_law_row.kp (b_law_row T) .nil pass0 (pa_cons (pv 0) (pa_cons pe_int (pa_cons pe_int pa_nil)))))
 (pss_cons (ps_set (i := 4) sc_law_names.nd rfl (.inl rfl) (pe_join pe_str (pe_lc (own := [("_law_k", 3)]) (g := gName 3) (tt := tYes) (by rfl) sc_law_names.nd (pi_list (pe_slice sl_list (pv 2) po_none (po_some (pe_op op_add pe_int (pe_op op_mod (pe_callTy call_int1 (by rfl) T.n_int (by decide +kernel) (pa_cons (pv 0) pa_nil)) pe_int))))) (blkOk_by (N := ["_law_cell_here", "_law_signs", "_law_draws", "_law_k", "_law_first"]) (sc := defScope s_law_names) (by decide +kernel)) (fun _ _ _ _ _ => pg_name (i := 3) sc_law_names.nd rfl (Or.inl rfl)) (fun _ _ _ _ _ => pts_nil) (fun _ _ _ _ _ => (pe_ix ix_str (pv 1) (pv 3) (fun _ _ => rfl))))))
 (pss_one (ps_ret (pe_lst (pa_cons (pv 4) (pa_cons (pe_op op_add_str (pv 4) (pe_ix ix_str (pv 1) (pe_ix ix_list (pv 2) pe_int (fun _ _ => rfl)) (fun _ _ => rfl))) pa_nil))))))), ?_⟩
    have p7 : (0 : Int) < 7 := by decide
    have two : 2 ≤ sizeLine := by decide
    have sgl : SIG.length ≤ sizeLine := by rw [TL.len_tl, sig_len]; decide
    refine ⟨_, rfl, c, 9, 36, rfl, by decide, by decide, by decide, fun H1 p s1 np hp hl hd => ?_⟩
    generalize eds : rowF c 9 36 = ds at hp hl hd
    have at_ : ∀ d : Int, d ∈ ds → atI (TL.tl SIG) d = some (sgA d) ∧ sgA d ∈ TL.tl SIG := by
      intro d hm
      obtain ⟨d0, d1⟩ := hd d hm
      obtain ⟨j, rfl⟩ := Int.eq_ofNat_of_zero_le d0
      have hj : j < (TL.tl SIG).length := by rw [sig_len]; omega
      have e : atI (TL.tl SIG) (j : Int) = some ((TL.tl SIG)[j]) := atI_nat (List.getElem?_eq_getElem hj)
      have e2 : sgA (j : Int) = (TL.tl SIG)[j] := by unfold sgA; rw [e]; rfl
      rw [e2]; exact ⟨e, List.getElem_mem hj⟩
    refine ⟨⟨_, rfl⟩, _, rfl, _, rfl, .inl ⟨_, rfl, _, _, rfl, rfl, p7, _, _, rfl, rfl, _, rfl, p, _, rfl, SqL.of hp, fun S nS => ?_⟩⟩
    have m0 := Int.emod_nonneg c (Int.ne_of_gt p7)
    have m1 := Int.emod_lt_of_pos c p7
    obtain ⟨q, hq⟩ := Int.eq_ofNat_of_zero_le m0
    have cl : (cutV (ds.map V.int) none (some (1 + c % 7))).length = 1 + q := by
      unfold cutV
      rw [HT.sIx_none, hq, show (1 : Int) + (q : Int) = ((1 + q : Nat) : Int) by omega, HT.sIx_nat, List.length_take, List.length_drop, List.length_map, hl]
      omega
    have ecut : cutV (ds.map V.int) none (some (1 + c % 7)) = (ds.take (1 + q)).map V.int := by
      unfold cutV
      rw [HT.sIx_none, hq, show (1 : Int) + (q : Int) = ((1 + q : Nat) : Int) by omega, HT.sIx_nat, List.drop_zero, List.length_map, hl, Nat.min_eq_left (by omega), Nat.sub_zero, List.map_take]
    refine ⟨S, rfl, ⟨_, SqL.of upd_same⟩, fun D nD => lc_list (K := K) (a := S) (xs := cutV (ds.map V.int) none (some (1 + c % 7)))
      (fun i H' => H' S = some (.lst (cutV (ds.map V.int) none (some (1 + c % 7)))) ∧ Same H1 H' ∧ ∃ cs : List Nat, cs.length = i ∧ (∀ z ∈ cs, z ∈ TL.tl SIG) ∧ H' D = some (.lst ((cs.map fun c => (⟨#[c]⟩ : Str)).map V.str)) ∧ cs = ((ds.take (1 + q)).take i).map sgA)
      ⟨kp nD upd_same, same_new (same_new (Same.refl H1) nS) nD, [], rfl, (fun _ h => by cases h), upd_same, rfl⟩ (fun i H' _ z => SqL.of z.1) ?_ ?_⟩
    · rintro i x H' hi ⟨hS, sm, cs, hy, hy1, hD, ecs⟩
      have hx : x ∈ ds.map V.int := List.mem_of_mem_drop (List.mem_of_mem_take (List.mem_of_getElem? hi))
      have hi2 := hi
      rw [ecut, List.getElem?_map] at hi2
      obtain ⟨d, hdq, hdx⟩ : ∃ d, (ds.take (1 + q))[i]? = some d ∧ x = V.int d := by
        cases e : (ds.take (1 + q))[i]? with
        | none => rw [e] at hi2; cases hi2
        | some d => rw [e] at hi2; exact ⟨d, rfl, (Option.some.inj hi2).symm⟩
      subst hdx
      have hdm : d ∈ ds := List.mem_of_mem_take (List.mem_of_getElem? hdq)
      obtain ⟨hch, hcm⟩ := at_ d hdm
      have hlt : i < (cutV (ds.map V.int) none (some (1 + c % 7))).length := (List.getElem?_eq_some_iff.mp hi).1
      refine ⟨rfl, ?_⟩
      refine ⟨_, rfl, _, rfl, SIG, d, sgA d, rfl, rfl, sgl, hch, _, hD, small1000 (by rw [List.length_map, List.length_map]; omega), ?_, ?_, cs ++ [sgA d], by simp [hy], fun y hm => ?_, ?_, by rw [List.take_add_one, hdq, List.map_append, ← ecs]; rfl⟩
      · rw [upd_ne (fun e => by rw [← e, upd_same] at nD; cases nD)]
        exact hS
      · intro b o z
        have hb : b ≠ D := ne_of_none (kp nS z) nD
        rw [upd_ne hb]
        exact sm b o z
      · rcases List.mem_append.mp hm with h | h
        · exact hy1 y h
        · rw [List.mem_singleton.mp h]; exact hcm
      · rw [upd_same, List.map_append, List.map_append]
        rfl
    · rintro H' ⟨hS, sm, cs, hy, hy1, hD, ecs⟩
      rw [cl] at hy
      have hy0 : ∀ y ∈ cs.map (fun c => (⟨#[c]⟩ : Str)), y.length ≤ 1 := fun y h => by obtain ⟨z, _, rfl⟩ := List.mem_map.mp h; exact Nat.le_refl 1
      have hsum := sum_len hy0
      rw [List.length_map] at hsum
      have tlj : TL.tl (Txt.join (Str.ofString "") (cs.map fun c => (⟨#[c]⟩ : Str))) = cs := by
        rw [join_eq, tl_join]
        have e : TL.tl (Str.ofString "") = [] := by decide +kernel
        rw [e, List.map_map]
        exact join_ones cs
      have e0 : (Str.ofString "").length = 0 := by decide +kernel
      refine ⟨Str.ofString "", D, cs.map (fun c => (⟨#[c]⟩ : Str)), rfl, rfl, .inl (SqL.of hD), ?_, ?_⟩
      · rw [e0]
        omega
      have hfl : (Txt.join (Str.ofString "") (cs.map fun c => (⟨#[c]⟩ : Str))).length = 1 + q := by rw [TL.len_tl, tlj, hy]
      have hok : NmOk (Txt.join (Str.ofString "") (cs.map fun c => (⟨#[c]⟩ : Str))) := ⟨by omega, by omega, fun z hz => hy1 z (by rw [tlj] at hz; exact hz)⟩
      have h8 : (8 : Nat) < ds.length := by omega
      have hat : (ds.map V.int)[8]? = some (.int ds[8]) := by rw [List.getElem?_map, List.getElem?_eq_getElem h8] <;> rfl
      obtain ⟨hch, hcm⟩ := at_ ds[8] (List.getElem_mem h8)
      have l2 : (Txt.join (Str.ofString "") (cs.map fun c => (⟨#[c]⟩ : Str)) ++ (⟨#[sgA ds[8]]⟩ : Str)).length = 1 + q + 1 := by
        rw [str_len_app, hfl]; rfl
      refine ⟨_, rfl, _, rfl, _, rfl, _, rfl, p, _, _, _, rfl, rfl, SqL.of (sm _ _ hp), atI_nat (j := 8) hat, SIG, _, sgA ds[8], rfl, rfl, sgl, hch, _, _, rfl, rfl, ?_, two, fun L nL => ?_⟩
      · rw [hfl]
        exact Nat.le_of_lt (small1000 (show 1 + q + 1 ≤ 1000 by omega))
      have eA : nmA c = Txt.join (Str.ofString "") (cs.map fun c => (⟨#[c]⟩ : Str)) := by
        unfold nmA sgS
        rw [eds, hq]
        show Txt.join _ ((ds.take (1 + q)).map fun d => (⟨#[sgA d]⟩ : Str)) = _
        have : (ds.take (1 + q)).take (cutV (ds.map V.int) none (some (1 + c % 7))).length = ds.take (1 + q) := List.take_of_length_le (by rw [cl, List.length_take]; omega)
        rw [this] at ecs
        rw [ecs, List.map_map]; rfl
      have eB : nmB c = Txt.join (Str.ofString "") (cs.map fun c => (⟨#[c]⟩ : Str)) ++ (⟨#[sgA ds[8]]⟩ : Str) := by
        unfold nmB
        rw [eA, eds]
        have : ds.getD 8 0 = ds[8] := by rw [List.getD_eq_getElem?_getD, List.getElem?_eq_getElem h8]; rfl
        rw [this]
      have k := k
      rw [eA, eB] at k
      refine k _ L ((s1.trans sm).trans (same_new (Same.refl H') nL)) ((s1.trans sm).free nL) upd_same hok ⟨by omega, by omega, fun z hz => ?_⟩ fun e => ?_
      · have : z ∈ TL.tl (Txt.join (Str.ofString "") (cs.map fun c => (⟨#[c]⟩ : Str))) ++ [sgA ds[8]] := by rw [← show TL.tl (Txt.join (Str.ofString "") (cs.map fun c => (⟨#[c]⟩ : Str)) ++ (⟨#[sgA ds[8]]⟩ : Str)) = _ ++ [sgA ds[8]] from tl_append _ _]; exact hz
        rcases List.mem_append.mp this with h | h
        · exact hok.2.2 z h
        · rw [List.mem_singleton.mp h]; exact hcm
      · have := congrArg Str.length e
        rw [l2, hfl] at this
        omega
theorem ok_names : FnOk PP w K mg base CX0 2 T.f_law_names T.d_law_names ["_law_cell_here"] spNames :=
  (ok_namesD T).imp fun vs H Q E ⟨c, e, k⟩ => ⟨c, e, fun H' p => k H' p (nmA c) (nmB c)⟩
def spInts : Sp := fun vs H Q _ => ∃ (a d : Addr) (L : List Int), vs = [.ref a, .ref d] ∧ H a = some (.tup (L.map V.int)) ∧ H d = some (.tup (L.map V.int)) ∧ L.length ≤ 900 ∧ Q (.bl true) H
theorem ok_ints : FnOk PP w K mg base CX0 1 T.f_law_ints T.d_law_ints ["_law_actual", "_law_due_here"] spInts := by
  refine T.F_law_ints.ok sc_law_ints (fun vs H Q E h => ?_) (fun cdv A outer s H vs Q E hr h => ?_)
  · obtain ⟨a, d, L, rfl, _⟩ := h
    rfl
  · obtain ⟨a, d, L, rfl, ha, hd, hl, k⟩ := h
    refine ⟨_, pss_cons (ps_if (PW.pt (pw_or (pt_not (pt_val (pe_callB call_isi (by rfl) T.n_isinstance (by decide +kernel) (pa_cons (pv 0) (pa_cons (pe_bltn (v := .ty "tuple") (by rfl) T.n_tuple (by decide +kernel) rfl) pa_nil))))) (pw_or1 (pt_cmpR op_ne (pe_callB call_len_seq (by rfl) T.n_len PySem.boot_len (pa_cons (pv 0) pa_nil)) (pe_callB call_len_seq (by rfl) T.n_len PySem.boot_len (pa_cons (pv 1) pa_nil)) (nomark _)))))
 (pss_one (ps_ret pe_bl))
 pss_nil)
 (pss_cons (ps_for PassesOwn.never rfl (pi_range1 rfl T.n_range (pa_cons (pe_callB call_len_seq (by rfl) T.n_len PySem.boot_len (pa_cons (pv 1) pa_nil)) pa_nil)) (pg_name (i := 2) sc_law_ints.nd rfl (.inl rfl))
 (pss_one (ps_if (PW.pt (pw_or (pt_val (pe_callB call_isi (by rfl) T.n_isinstance (by decide +kernel) (pa_cons (pe_ix ix_tup (pv 0) (pv 2) (fun _ _ => rfl)) (pa_cons (pe_bltn (v := .ty "bool") (by rfl) T.n_bool (by decide +kernel) rfl) pa_nil)))) (pw_or (pt_not (pt_val (pe_callB call_isi (by rfl) T.n_isinstance (by decide +kernel) (pa_cons (pe_ix ix_tup (pv 0) (pv 2) (fun _ _ => rfl)) (pa_cons (pe_bltn (v := .ty "int") (by rfl) T.n_int (by decide +kernel) rfl) pa_nil))))) (pw_or1 (pt_cmpR op_ne (pe_ix ix_tup (pv 0) (pv 2) (fun _ _ => rfl)) (pe_ix ix_tup (pv 1) (pv 2) (fun _ _ => rfl)) (nomark _))))))
 (pss_one (ps_ret pe_bl))
 pss_nil)))
 (pss_one (ps_ret pe_bl))), ?_⟩
    have ll : (L.map V.int).length ≤ 900 := by rw [List.length_map]; exact hl
    refine ⟨_, rfl, _, _, _, _, true, rfl, ClsV.ty _, .base (.tup ha), kit_ty (by decide +kernel), _, rfl, ?_⟩
    refine iteF ⟨_, rfl, a, _, rfl, .inr (SqT.of ha), _, rfl, d, _, rfl, .inr (SqT.of hd), rfl, _, rfl, ?_⟩
    rw [decide_eq_true rfl]
    refine iteF ?_
    refine ⟨_, rfl, d, _, rfl, .inr (SqT.of hd), _, rfl, by omega, by omega, for_range (lo := 0) (n := (L.map V.int).length) (fun i τ H' => ∃ v2, τ = [some (.ref a), some (.ref d), v2] ∧ H' = H) ⟨none, rfl, rfl⟩ ?_ ?_⟩
    · rintro i τ H' hi ⟨v2, rfl, rfl⟩
      have hi' : i < L.length := by rw [List.length_map] at hi; exact hi
      have ea : atI (L.map V.int) (0 + (i : Int)) = some (.int L[i]) := by
        rw [Int.zero_add]
        exact atI_nat (by rw [List.getElem?_map, List.getElem?_eq_getElem hi']; rfl)
      refine ⟨_, rfl, _, rfl, a, _, _, .int L[i], rfl, rfl, SqT.of ha, ea, _, _, _, _, false, rfl, ClsV.ty _, .base (.int _), kit_ty (by decide +kernel), _, rfl, ?_⟩
      refine iteF ⟨_, rfl, _, rfl, a, _, _, .int L[i], rfl, rfl, SqT.of ha, ea, _, _, _, _, true, rfl, ClsV.ty _, .base (.int _), kit_ty (by decide +kernel), _, rfl, ?_⟩
      refine iteF ⟨_, rfl, _, rfl, a, _, _, .int L[i], rfl, rfl, SqT.of ha, ea, _, rfl, _, rfl, d, _, _, .int L[i], rfl, rfl, SqT.of hd, ea, rfl, _, rfl, ?_⟩
      rw [decide_eq_true rfl]
      exact iteF ⟨_, rfl, rfl⟩
    · rintro τ H' ⟨v2, rfl, rfl⟩
      exact k
/-! data that can be compared -/
theorem strOk_of {x : Str} (h : ∀ c ∈ TL.tl x, c < 0x110000) : PyData.strOk x = true := by
  unfold PyData.strOk
  rw [Array.all_eq_true]
  intro i hi
  refine decide_eq_true (h _ ?_)
  show x.cps[i] ∈ x.cps.toList
  exact Array.getElem_mem_toList hi
theorem NmOk.ok {z : Str} (h : NmOk z) : PyData.strOk z = true := strOk_of fun c hc => (show ∀ c ∈ TL.tl SIG, c < 0x110000 from by decide +kernel) c (h.2.2 c hc)
theorem dpAll_strs {K : PySem.W.Frag} {H : Hp} : ∀ L : List Str, DpAll K H (L.map V.str) (L.map PyData.str)
  | [] => .nil
  | _ :: L => .cons (.str _) (dpAll_strs L)
theorem ents_shaped {L : List Str} (h : ∀ e ∈ L, e ∈ ENT) : SeqAt.shaped (.tuple (L.map PyData.str)) = true := by
  have h1 : ∀ e ∈ ENT, PyData.strOk e = true := by decide +kernel
  have h2 : ∀ L : List Str, (∀ e ∈ L, e ∈ ENT) → PyData.canLayAll0 (L.map PyData.str) = true ∧ PyData.depthAll (L.map PyData.str) ≤ 1 := by
    intro L
    induction L with
    | nil => intro _; exact ⟨rfl, Nat.zero_le _⟩
    | cons x L ih =>
      intro h
      obtain ⟨a, b⟩ := ih fun e he => h e (List.mem_cons_of_mem _ he)
      have c := h1 x (h x (List.mem_cons_self ..))
      simp only [List.map_cons, PyData.canLayAll0, PyData.canLay0, c, a, PyData.depthAll, PyData.depth]
      exact ⟨rfl, by omega⟩
  obtain ⟨a, b⟩ := h2 L h
  unfold SeqAt.shaped
  rw [Bool.and_eq_true]
  refine ⟨by simpa [PyData.canLay0] using a, decide_eq_true ?_⟩
  simp only [PyData.depth]
  omega
theorem ents_refl {L : List Str} (h : ∀ e ∈ L, e ∈ ENT) : PyData.eqv (.tuple (L.map PyData.str)) (.tuple (L.map PyData.str)) = true := SeqAt.eqv_refl _ (SeqAt.canLay_of_shaped (ents_shaped h))
def spOutcome : Sp := fun vs H Q _ => ∃ (a d : Addr) (o : Out), vs = [.ref a, .ref d] ∧ OutAt H a o ∧ OutAt H d o ∧ GdO o ∧ o.fallen.length ≤ 900 ∧ Q (.bl true) H
theorem ok_loutcome : FnOk PP w K mg base CX0 2 T.f_law_outcome T.d_law_outcome ["_law_actual", "_law_due_here"] spOutcome := by
  refine T.F_law_outcome.ok sc_law_outcome (fun vs H Q E h => ?_) (fun cdv A outer s H vs Q E hr h => ?_)
  · obtain ⟨a, d, o, rfl, _⟩ := h
    rfl
  · obtain ⟨a, d, o, rfl, ⟨m1, v1, f1, a1, a2, a3, a4⟩, ⟨m2, v2, f2, d1, d2, d3, d4⟩, go, hf, k⟩ := h
    refine ⟨_, pss_cons (ps_if (PW.pt (pw_or (pt_not (pt_val (pe_callB call_isi (by rfl) T.n_isinstance (by decide +kernel) (pa_cons (pv 0) (pa_cons (pe_bltn (v := .ty "tuple") (by rfl) T.n_tuple (by decide +kernel) rfl) pa_nil))))) (pw_or1 (pt_cmpR op_ne (pe_callB call_len_seq (by rfl) T.n_len PySem.boot_len (pa_cons (pv 0) pa_nil)) pe_int (nomark _)))))
 (pss_one (ps_ret pe_bl))
 pss_nil)
 (pss_cons (ps_if (PW.pt (pw_or (pt_not (pt_val (pe_callB call_isi (by rfl) T.n_isinstance (by decide +kernel) (pa_cons (pe_ix ix_tup (pv 0) pe_int (fun _ _ => rfl)) (pa_cons (pe_bltn (v := .ty "str") (by rfl) T.n_str (by decide +kernel) rfl) pa_nil))))) (pw_or1 (pt_cmpR op_ne (pe_ix ix_tup (pv 0) pe_int (fun _ _ => rfl)) (pe_ix ix_tup (pv 1) pe_int (fun _ _ => rfl)) (nomark _)))))
 (pss_one (ps_ret pe_bl))
 pss_nil)
 (pss_cons (ps_if (PW.pt (pw_or (pt_not (pt_val (pe_callB call_isi (by rfl) T.n_isinstance (by decide +kernel) (pa_cons (pe_ix ix_tup (pv 0) pe_int (fun _ _ => rfl)) (pa_cons (pe_bltn (v := .ty "tuple") (by rfl) T.n_tuple (by decide +kernel) rfl) pa_nil))))) (pw_or1 (pt_cmpR (op_neD hr.units) (pe_ix ix_tup (pv 0) pe_int (fun _ _ => rfl)) (pe_ix ix_tup (pv 1) pe_int (fun _ _ => rfl)) (nomark _)))))
 (pss_one (ps_ret pe_bl))
 pss_nil)
 (pss_cons (ps_if (pt_not (pt_val (pe_call (ok_ints T) (hr.mono (by decide)) (by rfl) T.g_law_ints T.F_law_ints.kp (b_law_ints T) .nil pass0 (pa_cons (pe_ix ix_tup (pv 0) pe_int (fun _ _ => rfl)) (pa_cons (pe_ix ix_tup (pv 1) pe_int (fun _ _ => rfl)) pa_nil)))))
 (pss_one (ps_ret pe_bl))
 pss_nil)
 (pss_cons (ps_if (pt_val (pe_callB call_isi (by rfl) T.n_isinstance (by decide +kernel) (pa_cons (pe_ix ix_tup (pv 1) pe_int (fun _ _ => rfl)) (pa_cons (pe_bltn (v := .ty "tuple") (by rfl) T.n_tuple (by decide +kernel) rfl) pa_nil))))
 (pss_one (ps_ret (pe_call (ok_ints T) (hr.mono (by decide)) (by rfl) T.g_law_ints T.F_law_ints.kp (b_law_ints T) .nil pass0 (pa_cons (pe_ix ix_tup (pv 0) pe_int (fun _ _ => rfl)) (pa_cons (pe_ix ix_tup (pv 1) pe_int (fun _ _ => rfl)) pa_nil)))))
 pss_nil)
 (pss_cons (ps_if (pt_cmpR op_isN (pe_ix ix_tup (pv 1) pe_int (fun _ _ => rfl)) pe_non (nomark _))
 (pss_one (ps_ret (pe_cmpR op_isN (pe_ix ix_tup (pv 0) pe_int (fun _ _ => rfl)) pe_non (nomark _))))
 pss_nil)
 (pss_one (ps_ret (pe_and (pe_not (pe_callB call_isi (by rfl) T.n_isinstance (by decide +kernel) (pa_cons (pe_ix ix_tup (pv 0) pe_int (fun _ _ => rfl)) (pa_cons (pe_bltn (v := .ty "bool") (by rfl) T.n_bool (by decide +kernel) rfl) pa_nil)))) (pe_and (pe_callB call_isi (by rfl) T.n_isinstance (by decide +kernel) (pa_cons (pe_ix ix_tup (pv 0) pe_int (fun _ _ => rfl)) (pa_cons (pe_bltn (v := .ty "int") (by rfl) T.n_int (by decide +kernel) rfl) pa_nil))) (pe_one (pe_cmpR op_eq (pe_ix ix_tup (pv 0) pe_int (fun _ _ => rfl)) (pe_ix ix_tup (pv 1) pe_int (fun _ _ => rfl)) (nomark _)))))))))))), ?_⟩
    refine ⟨_, rfl, _, _, _, _, true, rfl, ClsV.ty _, .base (.tup a1), kit_ty (by decide +kernel), _, rfl, ?_⟩
    refine iteF ⟨_, rfl, a, _, rfl, .inr (SqT.of a1), rfl, _, rfl, ?_⟩
    refine iteF ?_
    refine ⟨_, rfl, a, _, _, .str o.word, rfl, rfl, SqT.of a1, rfl, _, _, _, _, true, rfl, ClsV.ty _, .base (.str _), kit_ty (by decide +kernel), _, rfl, ?_⟩
    refine iteF ⟨_, rfl, a, _, _, .str o.word, rfl, rfl, SqT.of a1, rfl, _, rfl, d, _, _, .str o.word, rfl, rfl, SqT.of d1, rfl, rfl, _, rfl, ?_⟩
    rw [decide_eq_true rfl]
    refine iteF ?_
    refine ⟨_, rfl, a, _, _, .ref m1, rfl, rfl, SqT.of a1, rfl, _, _, _, _, true, rfl, ClsV.ty _, .base (.tup a2), kit_ty (by decide +kernel), _, rfl, ?_⟩
    refine iteF ⟨_, rfl, a, _, _, .ref m1, rfl, rfl, SqT.of a1, rfl, _, rfl, d, _, _, .ref m2, rfl, rfl, SqT.of d1, rfl, _, _, .tup (SqT.of a2) (dpAll_strs _), .tup (SqT.of d2) (dpAll_strs _), ents_shaped go.1, ents_shaped go.1, _, rfl, ?_⟩
    rw [ents_refl go.1]
    refine iteF ?_
    refine ⟨_, rfl, a, _, _, .ref f1, rfl, rfl, SqT.of a1, rfl, _, rfl, d, _, _, .ref f2, rfl, rfl, SqT.of d1, rfl, f1, f2, o.fallen, rfl, a4, d4, hf, _, rfl, ?_⟩
    refine iteF ?_
    revert a3 d3
    have hv : ∀ l, o.val = .tup l → l.length ≤ 100 := go.2
    generalize o.val = ov at hv
    intro a3 d3
    cases ov with
    | tup l =>
      obtain ⟨q1, rfl, b1⟩ := a3
      obtain ⟨q2, rfl, b2⟩ := d3
      refine ⟨_, rfl, d, _, _, .ref q2, rfl, rfl, SqT.of d1, rfl, _, _, _, _, true, rfl, ClsV.ty _, .base (.tup b2), kit_ty (by decide +kernel), _, rfl, ?_⟩
      exact iteT ⟨_, rfl, a, _, _, .ref q1, rfl, rfl, SqT.of a1, rfl, _, rfl, d, _, _, .ref q2, rfl, rfl, SqT.of d1, rfl, q1, q2, l, rfl, b1, b2, by have := hv l rfl; omega, k⟩
    | non =>
      have a3 : v1 = .non := a3
      have d3 : v2 = .non := d3
      subst a3 d3
      refine ⟨_, rfl, d, _, _, .non, rfl, rfl, SqT.of d1, rfl, _, _, _, _, false, rfl, ClsV.ty _, .base .non, kit_ty (by decide +kernel), _, rfl, ?_⟩
      refine iteF ⟨_, rfl, d, _, _, .non, rfl, rfl, SqT.of d1, rfl, rfl, _, rfl, ?_⟩
      rw [decide_eq_true rfl]
      refine iteT ⟨_, rfl, a, _, _, .non, rfl, rfl, SqT.of a1, rfl, rfl, ?_⟩
      rw [decide_eq_true rfl]
      exact k
    | int z =>
      have a3 : v1 = .int z := a3
      have d3 : v2 = .int z := d3
      subst a3 d3
      refine ⟨_, rfl, d, _, _, .int z, rfl, rfl, SqT.of d1, rfl, _, _, _, _, false, rfl, ClsV.ty _, .base (.int _), kit_ty (by decide +kernel), _, rfl, ?_⟩
      refine iteF ⟨_, rfl, d, _, _, .int z, rfl, rfl, SqT.of d1, rfl, rfl, _, rfl, ?_⟩
      rw [decide_eq_false (by intro q; cases q)]
      refine iteF ⟨_, rfl, a, _, _, .int z, rfl, rfl, SqT.of a1, rfl, _, _, _, _, false, rfl, ClsV.ty _, .base (.int _), kit_ty (by decide +kernel), ?_⟩
      refine ⟨_, rfl, _, rfl, ?_⟩
      refine iteT ⟨_, rfl, a, _, _, .int z, rfl, rfl, SqT.of a1, rfl, _, _, _, _, true, rfl, ClsV.ty _, .base (.int _), kit_ty (by decide +kernel), _, rfl, ?_⟩
      refine iteT ⟨_, rfl, a, _, _, .int z, rfl, rfl, SqT.of a1, rfl, _, rfl, d, _, _, .int z, rfl, rfl, SqT.of d1, rfl, rfl, ?_⟩
      rw [decide_eq_true rfl]
      exact k
end
end K11

namespace K11
open PySem L2 SI CM BK OWN MIR StX TX TL
section
variable {w : World} {K : PySem.W.Frag} {mg : Str → Option Value} {base : Heap} (T : Txt w K mg)
/-! values renamed -/
def mapI (φ : Int → Int) (i : MIR.It) : MIR.It := ⟨i.kept.map fun p => (p.1, φ p.2), i.opn.map fun p => (p.1, φ p.2), i.rd⟩
def mapS (φ : Int → Int) (σ : MIR.S) : MIR.S := ⟨fun n => mapI φ (σ.it n), σ.ov, σ.bd⟩
def mapV (φ : Int → Int) : OV → OV
  | .int v => .int (φ v)
  | o => o
def mapO (φ : Int → Int) (o : Out) : Out := ⟨o.word, o.met, mapV φ o.val, o.fallen⟩
section
variable {φ : Int → Int} (h0 : φ 0 = 0)
include h0
theorem lastV_map (i : MIR.It) : lastV (mapI φ i) = ((lastV i).1, φ (lastV i).2) := by
  unfold lastV mapI
  show (i.kept.map fun p => (p.1, φ p.2)).getLastD (0, 0) = _
  rw [List.getLastD_eq_getLast?, List.getLastD_eq_getLast?, List.getLast?_map]
  cases i.kept.getLast? with
  | none => show ((0, 0) : Int × Int) = (0, φ 0); rw [h0]
  | some p => rfl
theorem hOf_map (i : MIR.It) : hOf (mapI φ i) = hOf i := by
  unfold hOf mapI
  cases i.opn <;> rfl
theorem hInt_map (i : MIR.It) : hInt (mapI φ i) = hInt i := by
  unfold hInt mapI
  cases i.opn <;> rfl
theorem oldM_map (i : MIR.It) (s : Int) : oldM (mapI φ i) s = (oldM i s).map φ := by
  unfold oldM mapI
  show ((i.kept.map fun p => (p.1, φ p.2)).filter fun p => decide (p.1 < s)).map (·.2) = _
  rw [List.filter_map, List.map_map, List.map_map]
  rfl
theorem valM_map (i : MIR.It) (s : Int) (a : Str) : valM (mapI φ i) s a = mapV φ (valM i s a) := by
  unfold valM
  by_cases c1 : a = "open"
  · rw [if_pos c1, if_pos c1]
    unfold mapI
    cases i.opn <;> rfl
  · rw [if_neg c1, if_neg c1]
    by_cases c2 : a = "old"
    · rw [if_pos c2, if_pos c2, oldM_map h0]
      show OV.int (((oldM i s).map φ).getLastD 0) = .int (φ ((oldM i s).getLastD 0))
      rw [List.getLastD_eq_getLast?, List.getLastD_eq_getLast?, List.getLast?_map]
      cases (oldM i s).getLast? with
      | none => show OV.int 0 = .int (φ 0); rw [h0]
      | some p => rfl
    · rw [if_neg c2, if_neg c2, lastV_map h0]; rfl
theorem relI_map (L : List Int) (i : MIR.It) : relI L (mapI φ i) = mapI φ (relI L i) := by
  unfold relI
  cases e : i.opn with
  | none => unfold mapI; rw [e]; rfl
  | some p =>
    have e2 : (mapI φ i).opn = some (p.1, φ p.2) := by unfold mapI; rw [e]; rfl
    rw [e2]
    show (if p.1 ∈ L then { mapI φ i with opn := none } else mapI φ i) = mapI φ (if p.1 ∈ L then { i with opn := none } else i)
    by_cases c : p.1 ∈ L
    · rw [if_pos c, if_pos c]; rfl
    · rw [if_neg c, if_neg c]
theorem setI_map (s : Int) (k : Nat) (i : MIR.It) : setI s k (mapI φ i) = mapI φ (setI s k i) := by
  unfold setI
  cases e : i.opn with
  | none => unfold mapI; rw [e]; rfl
  | some p =>
    have e2 : (mapI φ i).opn = some (p.1, φ p.2) := by unfold mapI; rw [e]; rfl
    rw [e2]
    show (if p.1 = s then { mapI φ i with kept := lastN k ((mapI φ i).kept ++ [(s, φ p.2)]), opn := none } else mapI φ i) = mapI φ (if p.1 = s then { i with kept := lastN k (i.kept ++ [(s, p.2)]), opn := none } else i)
    by_cases c : p.1 = s
    · rw [if_pos c, if_pos c]
      unfold mapI
      show MIR.It.mk _ _ _ = MIR.It.mk _ _ _
      congr 1
      show lastN k ((i.kept.map fun p => (p.1, φ p.2)) ++ [(s, φ p.2)]) = (lastN k (i.kept ++ [(s, p.2)])).map fun p => (p.1, φ p.2)
      rw [← map_lastN, List.map_append]; rfl
    · rw [if_neg c, if_neg c]
theorem reach_map {σ : MIR.S} {s t : Int} : Reach (mapS φ σ) s t ↔ Reach σ s t := by
  constructor
  · intro h
    induction h with
    | refl => exact .refl
    | step _ hu ho ih => exact .step ih hu ho
  · intro h
    induction h with
    | refl => exact .refl
    | step _ hu ho ih => exact .step ih hu ho
theorem isF_map {σ : MIR.S} {s : Int} {L : List Int} : IsF (mapS φ σ) s L ↔ IsF σ s L :=
  ⟨fun h => ⟨h.1, fun t => (h.2 t).trans (reach_map h0)⟩, fun h => ⟨h.1, fun t => (h.2 t).trans (reach_map h0).symm⟩⟩
theorem fal_map (σ : MIR.S) (s : Int) : fal (mapS φ σ) s = fal σ s := by
  by_cases h : ∃ L, IsF σ s L
  · obtain ⟨L, hL⟩ := h
    rw [fal_eq hL, fal_eq ((isF_map h0).mpr hL)]
  · have h' : ¬ ∃ L, IsF (mapS φ σ) s L := fun ⟨L, hL⟩ => h ⟨L, (isF_map h0).mp hL⟩
    unfold fal
    rw [dif_neg h, dif_neg h']
theorem fallS_map (σ : MIR.S) (L : List Int) : fallS (mapS φ σ) L = mapS φ (fallS σ L) := by
  unfold fallS mapS
  show MIR.S.mk _ _ _ = MIR.S.mk _ _ _
  congr 1
  funext n
  exact relI_map h0 L (σ.it n)
theorem commS_map (σ : MIR.S) (s : Int) (k : Nat) : commS (mapS φ σ) s k = mapS φ (commS σ s k) := by
  unfold commS mapS
  show MIR.S.mk _ _ _ = MIR.S.mk _ _ _
  congr 1
  funext n
  exact setI_map h0 s k (σ.it n)
theorem bondS_map (σ : MIR.S) (s h : Int) : bondS (mapS φ σ) s h = mapS φ (bondS σ s h) := by
  unfold bondS
  show (if h ∈ σ.bd s then mapS φ σ else _) = _
  by_cases c : h ∈ σ.bd s
  · rw [if_pos c, if_pos c]
  · rw [if_neg c, if_neg c]; rfl
theorem itS_map (σ : MIR.S) (n : Str) (i : MIR.It) : itS (mapS φ σ) n (mapI φ i) = mapS φ (itS σ n i) := by
  unfold itS mapS
  show MIR.S.mk _ _ _ = MIR.S.mk _ _ _
  congr 1
  funext m
  show (if m = n then mapI φ i else mapI φ (σ.it m)) = mapI φ (if m = n then i else σ.it m)
  by_cases c : m = n
  · rw [if_pos c, if_pos c]
  · rw [if_neg c, if_neg c]
theorem readS_map (σ : MIR.S) (n : Str) (s : Int) : readS (mapS φ σ) n s = mapS φ (readS σ n s) := by
  unfold readS
  show (if s ≤ (σ.it n).rd then mapS φ σ else _) = _
  by_cases c : s ≤ (σ.it n).rd
  · rw [if_pos c, if_pos c]
  · rw [if_neg c, if_neg c]
    exact itS_map h0 σ n { σ.it n with rd := s }
theorem askR_map (B : Bkm) (σ : MIR.S) (kd : Str) (s : Int) (n : Str) (v : Int) (m : List Str) (an : Str) :
    askR B (mapS φ σ) kd s n (φ v) m an = (mapS φ (askR B σ kd s n v m an).1, mapO φ (askR B σ kd s n v m an).2) := by
  have e1 : (mapS φ σ).it n = mapI φ (σ.it n) := rfl
  have e2 : spotOf (mapS φ σ) s n = spotOf σ s n := by
    unfold spotOf
    rw [e1, lastV_map h0, hOf_map h0]
  have e3 : (oldM (mapI φ (σ.it n)) s = []) = (oldM (σ.it n) s = []) := by rw [oldM_map h0, List.map_eq_nil_iff]
  have e4 : (if bindM B.ends (spotOf σ s n) an = true then bondS (mapS φ σ) s (hInt (σ.it n)) else mapS φ σ) = mapS φ (if bindM B.ends (spotOf σ s n) an = true then bondS σ s (hInt (σ.it n)) else σ) := by
    by_cases c : bindM B.ends (spotOf σ s n) an = true
    · rw [if_pos c, if_pos c, bondS_map h0]
    · rw [if_neg c, if_neg c]
  unfold askR
  rw [e1, e2, hInt_map h0, valM_map h0, fal_map h0, fal_map h0, fallS_map h0, fallS_map h0, e4, readS_map h0]
  simp only [e3]
  by_cases c1 : an = "wait"
  · rw [if_pos c1, if_pos c1]; rfl
  rw [if_neg c1, if_neg c1]
  by_cases c2 : an = "wound"
  · rw [if_pos c2, if_pos c2]; rfl
  rw [if_neg c2, if_neg c2]
  by_cases c3 : an = "abort" ∨ (an = "old" ∧ oldM (σ.it n) s = [])
  · rw [if_pos c3, if_pos c3]; rfl
  rw [if_neg c3, if_neg c3]
  by_cases c4 : kd = "read"
  · rw [if_pos c4, if_pos c4]; rfl
  rw [if_neg c4, if_neg c4]
  by_cases c5 : an = "skip"
  · rw [if_pos c5, if_pos c5]; rfl
  rw [if_neg c5, if_neg c5]
  refine Prod.ext ?_ rfl
  exact itS_map h0 _ n { σ.it n with opn := some (s, v) }
theorem askM_map (B : Bkm) (σ : MIR.S) (kd : Str) (s : Int) (n : Str) (v : Int) :
    askM B (mapS φ σ) kd s n (φ v) = (mapS φ (askM B σ kd s n v).1, mapO φ (askM B σ kd s n v).2) := by
  have e1 : (mapS φ σ).it n = mapI φ (σ.it n) := rfl
  have e2 : spotOf (mapS φ σ) s n = spotOf σ s n := by
    unfold spotOf
    rw [e1, lastV_map h0, hOf_map h0]
  have e3 : entOf (mapS φ σ) kd s n = entOf σ kd s n := by
    unfold entOf
    rw [e2]; rfl
  rw [ask_R, ask_R, e2, e3]
  exact askR_map h0 B σ kd s n v _ _
theorem reqM_map (B : Bkm) (σ : MIR.S) (kd : Str) (s : Int) (n : Str) (v : Int) :
    reqM B (mapS φ σ) kd s n (φ v) = (mapS φ (reqM B σ kd s n v).1, mapO φ (reqM B σ kd s n v).2) := by
  unfold reqM
  rw [askM_map h0]
  show (if (askM B σ kd s n v).2.word ≠ "wound" then _ else if s ∈ (askM B σ kd s n v).2.fallen then _ else _) = _
  by_cases c1 : (askM B σ kd s n v).2.word ≠ "wound"
  · rw [if_pos c1, if_pos c1]
  rw [if_neg c1, if_neg c1]
  by_cases c2 : s ∈ (askM B σ kd s n v).2.fallen
  · rw [if_pos c2, if_pos c2]; rfl
  rw [if_neg c2, if_neg c2]
  show ((askM B (mapS φ (askM B σ kd s n v).1) kd s n (φ v)).1, _) = _
  rw [askM_map h0]
  rfl
theorem takeM_map (B : Bkm) (σ : MIR.S) (x : Stp) (v : Int) :
    takeM B (mapS φ σ) x (φ v) = (mapS φ (takeM B σ x v).1, mapO φ (takeM B σ x v).2) := by
  unfold takeM
  show (if (σ.ov x.who).isSome = true then _ else _) = _
  by_cases c : (σ.ov x.who).isSome = true
  · rw [if_pos c, if_pos c]; rfl
  rw [if_neg c, if_neg c]
  cases x with
  | com s =>
    show (if waitsOf σ s ≠ [] then _ else _) = _
    by_cases c2 : waitsOf σ s ≠ []
    · rw [if_pos c2]
      show _ = (mapS φ (if waitsOf σ s ≠ [] then (σ, _) else _).1, mapO φ (if waitsOf σ s ≠ [] then (σ, _) else _).2)
      rw [if_pos c2]; rfl
    · rw [if_neg c2]
      show _ = (mapS φ (if waitsOf σ s ≠ [] then (σ, _) else _).1, mapO φ (if waitsOf σ s ≠ [] then (σ, _) else _).2)
      rw [if_neg c2, commS_map h0]; rfl
  | abo s =>
    show (fallS (mapS φ σ) (fal (mapS φ σ) s), _) = (mapS φ (fallS σ (fal σ s)), _)
    rw [fal_map h0, fallS_map h0]
    rfl
  | req kd s n => exact reqM_map h0 B σ kd s n v
end
end
end K11

namespace K11
open PySem L2 SI CM BK OWN MIR StX TX TL
section
variable {w : World} {K : PySem.W.Frag} {mg : Str → Option Value} {base : Heap} (T : Txt w K mg)
/-! what a state is like in a run -/
structure WFS (U : List Int) (σ : MIR.S) : Prop where
  bd : ∀ t, t ∉ U → σ.bd t = []
  ho : ∀ n h v, (σ.it n).opn = some (h, v) → h ∈ U
  nd : ∀ t, (σ.bd t).Nodup
  sb : ∀ t, ∀ h ∈ σ.bd t, h ∈ U
theorem WFS.zero {U : List Int} : WFS U s0 := ⟨fun _ _ => rfl, fun n h v e => (by cases e), fun _ => List.nodup_nil, fun t h hh => (by cases hh)⟩
theorem WFS.fall {U : List Int} {σ : MIR.S} (w : WFS U σ) (L : List Int) : WFS U (fallS σ L) := by
  refine ⟨w.bd, fun n h v e => ?_, w.nd, w.sb⟩
  have e : (relI L (σ.it n)).opn = some (h, v) := e
  unfold relI at e
  cases ho : (σ.it n).opn with
  | none => rw [ho] at e; have e : (σ.it n).opn = some (h, v) := e; rw [ho] at e; cases e
  | some p =>
    rw [ho] at e
    have e : (if p.1 ∈ L then { σ.it n with opn := none } else σ.it n).opn = some (h, v) := e
    by_cases c : p.1 ∈ L
    · rw [if_pos c] at e; cases e
    · rw [if_neg c] at e; exact w.ho n h v e
theorem WFS.comm {U : List Int} {σ : MIR.S} (w : WFS U σ) (s : Int) (k : Nat) : WFS U (commS σ s k) := by
  refine ⟨w.bd, fun n h v e => ?_, w.nd, w.sb⟩
  have e : (setI s k (σ.it n)).opn = some (h, v) := e
  unfold setI at e
  cases ho : (σ.it n).opn with
  | none => rw [ho] at e; have e : (σ.it n).opn = some (h, v) := e; rw [ho] at e; cases e
  | some p =>
    rw [ho] at e
    have e : (if p.1 = s then { σ.it n with kept := lastN k ((σ.it n).kept ++ [(s, p.2)]), opn := none } else σ.it n).opn = some (h, v) := e
    by_cases c : p.1 = s
    · rw [if_pos c] at e; cases e
    · rw [if_neg c] at e; exact w.ho n h v e
theorem WFS.bond {U : List Int} {σ : MIR.S} (w : WFS U σ) {s : Int} (hs : s ∈ U) {h : Int} (hh : h ∈ U) : WFS U (bondS σ s h) := by
  unfold bondS
  by_cases c : h ∈ σ.bd s
  · rw [if_pos c]; exact w
  · rw [if_neg c]
    refine ⟨fun t ht => ?_, w.ho, fun t => ?_, fun t x hx => ?_⟩
    · show (if t = s then σ.bd s ++ [h] else σ.bd t) = []
      rw [if_neg fun e : t = s => ht (by rw [e]; exact hs)]
      exact w.bd t ht
    · show (if t = s then σ.bd s ++ [h] else σ.bd t).Nodup
      by_cases e : t = s
      · rw [if_pos e]
        exact List.nodup_append.mpr ⟨w.nd s, List.nodup_cons.mpr ⟨List.not_mem_nil, List.nodup_nil⟩, fun a ha b hb' q => by rw [List.mem_singleton.mp hb'] at q; exact c (q ▸ ha)⟩
      · rw [if_neg e]; exact w.nd t
    · have hx : x ∈ (if t = s then σ.bd s ++ [h] else σ.bd t) := hx
      by_cases e : t = s
      · rw [if_pos e] at hx
        rcases List.mem_append.mp hx with q | q
        · exact w.sb s x q
        · rw [List.mem_singleton.mp q]; exact hh
      · rw [if_neg e] at hx; exact w.sb t x hx
theorem WFS.its {U : List Int} {σ : MIR.S} (w : WFS U σ) (n : Str) (i : MIR.It) (hi : ∀ h v, i.opn = some (h, v) → h ∈ U) : WFS U (itS σ n i) := by
  refine ⟨w.bd, fun m h v e => ?_, w.nd, w.sb⟩
  have e : (if m = n then i else σ.it m).opn = some (h, v) := e
  by_cases c : m = n
  · rw [if_pos c] at e; exact hi h v e
  · rw [if_neg c] at e; exact w.ho m h v e
theorem WFS.read {U : List Int} {σ : MIR.S} (w : WFS U σ) (n : Str) (s : Int) : WFS U (readS σ n s) := by
  unfold readS
  by_cases c : s ≤ (σ.it n).rd
  · rw [if_pos c]; exact w
  · rw [if_neg c]; exact w.its n _ fun h v e => w.ho n h v e
/-- nobody waits or is wounded where nobody holds -/
theorem none_ans {B : Bkm} (hf : ∀ x ∈ ENT, B.f x ∈ chs x) {σ : MIR.S} {kd : Str} (hk : kd ∈ KINDS) {s : Int} {n : Str} (h0 : hOf (σ.it n) = none) : ansL B kd (spotOf σ s n) (entOf σ kd s n) ∈ (["put", "abort", "last", "old", "skip"] : List Str) := by
  have h2 := no_hold hf B rfl hk (s := s) (x := (lastV (σ.it n)).1) (decide ((σ.it n).rd > s))
  rw [← h0] at h2
  exact h2.1
theorem WFS.ask {U : List Int} {σ : MIR.S} (w : WFS U σ) {B : Bkm} (hf : ∀ x ∈ ENT, B.f x ∈ chs x) {kd : Str} (hk : kd ∈ KINDS) {s : Int} (hs : s ∈ U) (n : Str) (v : Int) : WFS U (askM B σ kd s n v).1 := by
  have hn : hOf (σ.it n) = none → ansL B kd (spotOf σ s n) (entOf σ kd s n) ∈ (["put", "abort", "last", "old", "skip"] : List Str) := fun h => none_ans hf hk h
  rw [ask_R]
  generalize ansL B kd (spotOf σ s n) (entOf σ kd s n) = an at hn
  unfold askR
  have wb : WFS U (if bindM B.ends (spotOf σ s n) an = true then bondS σ s (hInt (σ.it n)) else σ) := by
    by_cases c : bindM B.ends (spotOf σ s n) an = true
    · rw [if_pos c]
      cases ho : (σ.it n).opn with
      | none =>
        have e2 : hOf (σ.it n) = none := by unfold hOf; rw [ho]; rfl
        have hs2 : spotOf σ s n = placeM s (lastV (σ.it n)).1 none := by show placeM s (lastV (σ.it n)).1 (hOf (σ.it n)) = _; rw [e2]
        rw [hs2, bind_none fun z => by have := hn e2; rw [z] at this; exact absurd this (by decide +kernel)] at c
        cases c
      | some p =>
        have e3 : hInt (σ.it n) = p.1 := by unfold hInt; rw [ho]
        rw [e3]
        exact w.bond hs (w.ho n p.1 p.2 ho)
    · rw [if_neg c]; exact w
  split
  · exact w
  split
  · exact w.fall _
  split
  · exact w.fall _
  split
  · exact wb.read n s
  split
  · exact wb
  · exact wb.its n _ fun h v e => by cases e; exact hs
theorem WFS.req {U : List Int} {σ : MIR.S} (w : WFS U σ) {B : Bkm} (hf : ∀ x ∈ ENT, B.f x ∈ chs x) {kd : Str} (hk : kd ∈ KINDS) {s : Int} (hs : s ∈ U) (n : Str) (v : Int) : WFS U (reqM B σ kd s n v).1 := by
  by_cases hw : (askM B σ kd s n v).2.word = "wound"
  · by_cases h2 : s ∈ fal σ (hInt (σ.it n))
    · rw [reqM_self hw h2]; exact w.fall _
    · rw [reqM_two hw h2]; exact (w.fall _).ask hf hk hs n v
  · rw [reqM_one hw]; exact w.ask hf hk hs n v
theorem WFS.take {U : List Int} {σ : MIR.S} (w : WFS U σ) {B : Bkm} (hf : ∀ x ∈ ENT, B.f x ∈ chs x) {x : Stp} (hk : KdOk x) (hx : x.who ∈ U) (v : Int) : WFS U (takeM B σ x v).1 := by
  unfold takeM
  by_cases c : (σ.ov x.who).isSome = true
  · rw [if_pos c]; exact w
  rw [if_neg c]
  cases x with
  | com s =>
    show WFS U (if waitsOf σ s ≠ [] then (σ, (⟨"wait", [], .tup (asc (waitsOf σ s)), []⟩ : Out)) else (commS σ s B.keep, ⟨"commit", [], .non, []⟩)).1
    by_cases c2 : waitsOf σ s ≠ []
    · rw [if_pos c2]; exact w
    · rw [if_neg c2]; exact w.comm s _
  | abo s => exact w.fall _
  | req kd s n => exact w.req hf hk hx n v
theorem WFS.st {B : Bkm} (hf : ∀ x ∈ ENT, B.f x ∈ chs x) {xs : List Stp} (hk : ∀ x ∈ xs, KdOk x) (i : Nat) : WFS (usOf xs) (stN B xs i) := by
  induction i with
  | zero => exact WFS.zero
  | succ i ih =>
    cases e : xs[i]? with
    | none =>
      have : stN B xs (i + 1) = stN B xs i := by
        show (match xs[i]? with | some x => (takeM B (stN B xs i) x (1 + (i : Nat))).1 | none => stN B xs i) = _
        rw [e]
      rw [this]; exact ih
    | some x =>
      rw [stN_at e]
      exact ih.take hf (hk x (List.mem_of_getElem? e)) (List.mem_map.mpr ⟨x, List.mem_of_getElem? e, rfl⟩) _
def nub : List Int → List Int
  | [] => []
  | x :: l => if x ∈ nub l then nub l else x :: nub l
theorem nub_mem : ∀ {l : List Int} {x : Int}, x ∈ nub l ↔ x ∈ l
  | [], _ => Iff.rfl
  | y :: l, x => by
    unfold nub
    by_cases c : y ∈ nub l
    · rw [if_pos c, nub_mem, List.mem_cons]
      exact ⟨.inr, fun h => h.elim (fun e => by rw [e]; exact nub_mem.mp c) id⟩
    · rw [if_neg c, List.mem_cons, List.mem_cons, nub_mem]
theorem nub_nd : ∀ l : List Int, (nub l).Nodup
  | [] => List.nodup_nil
  | y :: l => by
    unfold nub
    by_cases c : y ∈ nub l
    · rw [if_pos c]; exact nub_nd l
    · rw [if_neg c]; exact List.nodup_cons.mpr ⟨c, nub_nd l⟩
theorem WFS.isF {U : List Int} {σ : MIR.S} (w : WFS U σ) {s : Int} (hs : s ∈ U) : IsF σ s (fal σ s) ∧ ∀ t ∈ fal σ s, t ∈ U := by
  have ⟨a, b⟩ := fal_isF (σ := σ) (s := s) (U := nub U) (nub_nd U) (fun t ht => w.bd t fun h => ht (nub_mem.mpr h)) (nub_mem.mpr hs)
  exact ⟨a, fun t h => nub_mem.mp (b t h)⟩
theorem ask_wait {B : Bkm} {σ : MIR.S} {kd : Str} {s : Int} {n : Str} {v : Int} (h : (askM B σ kd s n v).2.word = "wait") : (kd = "wait" ∨ ansL B kd (spotOf σ s n) (entOf σ kd s n) = "wait") ∧ (askM B σ kd s n v).1 = σ := by
  rw [ask_R] at h ⊢
  generalize ansL B kd (spotOf σ s n) (entOf σ kd s n) = an at h ⊢
  unfold askR at h ⊢
  by_cases c1 : an = "wait"
  · rw [if_pos c1]; exact ⟨.inr c1, rfl⟩
  rw [if_neg c1] at h
  by_cases c2 : an = "wound"
  · rw [if_pos c2] at h; exact absurd h (show ("wound" : Str) ≠ "wait" from by decide +kernel)
  rw [if_neg c2] at h
  by_cases c3 : an = "abort" ∨ (an = "old" ∧ oldM (σ.it n) s = [])
  · rw [if_pos c3] at h; exact absurd h (show ("abort" : Str) ≠ "wait" from by decide +kernel)
  rw [if_neg c3] at h
  by_cases c4 : kd = "read"
  · rw [if_pos c4] at h; exact absurd h (show ("read" : Str) ≠ "wait" from by decide +kernel)
  rw [if_neg c4] at h
  by_cases c5 : an = "skip"
  · rw [if_pos c5] at h; exact absurd h (show ("skip" : Str) ≠ "wait" from by decide +kernel)
  rw [if_neg c5] at h
  exact absurd h (show ("put" : Str) ≠ "wait" from by decide +kernel)
theorem ask_void {B : Bkm} {σ : MIR.S} {kd : Str} {s : Int} {n : Str} {v : Int} : (askM B σ kd s n v).2.word ≠ "void" := by
  rw [ask_R]
  generalize ansL B kd (spotOf σ s n) (entOf σ kd s n) = an
  unfold askR
  split
  · exact (show ("wait" : Str) ≠ "void" from by decide +kernel)
  split
  · exact (show ("wound" : Str) ≠ "void" from by decide +kernel)
  split
  · exact (show ("abort" : Str) ≠ "void" from by decide +kernel)
  split
  · exact (show ("read" : Str) ≠ "void" from by decide +kernel)
  split
  · exact (show ("skip" : Str) ≠ "void" from by decide +kernel)
  · exact (show ("put" : Str) ≠ "void" from by decide +kernel)
theorem second_none {U : List Int} {B : Bkm} {σ : MIR.S} (w : WFS U σ) {kd : Str} {s : Int} {n : Str} {v : Int} (hf : ∀ x ∈ ENT, B.f x ∈ chs x) (hk : kd ∈ KINDS) (h : (askM B σ kd s n v).2.word = "wound") : hOf ((fallS σ (fal σ (hInt (σ.it n)))).it n) = none := by
  cases ho : (σ.it n).opn with
  | none => exact absurd h (no_wound hf hk (by unfold hOf; rw [ho]; rfl))
  | some p =>
    have e3 : hInt (σ.it n) = p.1 := by unfold hInt; rw [ho]
    exact rel_none (isF_self (w.isF (by rw [e3]; exact w.ho n p.1 p.2 ho)).1)
theorem req_idle {U : List Int} {B : Bkm} {σ : MIR.S} (w : WFS U σ) {kd : Str} {s : Int} {n : Str} {v : Int} (hf : ∀ x ∈ ENT, B.f x ∈ chs x) (hk : kd ∈ KINDS) (h : (reqM B σ kd s n v).2.word = "wait" ∨ (reqM B σ kd s n v).2.word = "void") : (reqM B σ kd s n v).1 = σ := by
  by_cases hw : (askM B σ kd s n v).2.word = "wound"
  · by_cases hs : s ∈ fal σ (hInt (σ.it n))
    · rw [reqM_self hw hs] at h
      rcases h with h | h
      · exact absurd h (show ("abort" : Str) ≠ "wait" from by decide +kernel)
      · exact absurd h (show ("abort" : Str) ≠ "void" from by decide +kernel)
    · rw [reqM_two hw hs] at h
      have hn := second_none w hf hk hw
      have ha := none_ans (s := s) hf hk hn
      rcases h with h | h
      · rcases (ask_wait h).1 with e | e
        · rw [e] at hk; exact absurd hk (by decide +kernel)
        · rw [e] at ha; exact absurd ha (by decide +kernel)
      · exact absurd h ask_void
  · rw [reqM_one hw] at h ⊢
    rcases h with h | h
    · exact (ask_wait h).2
    · exact absurd h ask_void
theorem take_idle {U : List Int} {B : Bkm} {σ : MIR.S} (w : WFS U σ) {x : Stp} {v : Int} (hf : ∀ x ∈ ENT, B.f x ∈ chs x) (hk : KdOk x) (h : (takeM B σ x v).2.word = "wait" ∨ (takeM B σ x v).2.word = "void") : (takeM B σ x v).1 = σ := by
  unfold takeM at h ⊢
  by_cases c : (σ.ov x.who).isSome = true
  · rw [if_pos c]
  rw [if_neg c] at h ⊢
  cases x with
  | com s =>
    have h : (if waitsOf σ s ≠ [] then (σ, (⟨"wait", [], .tup (asc (waitsOf σ s)), []⟩ : Out)) else (commS σ s B.keep, ⟨"commit", [], .non, []⟩)).2.word = "wait" ∨ (if waitsOf σ s ≠ [] then (σ, (⟨"wait", [], .tup (asc (waitsOf σ s)), []⟩ : Out)) else (commS σ s B.keep, ⟨"commit", [], .non, []⟩)).2.word = "void" := h
    show (if waitsOf σ s ≠ [] then (σ, (⟨"wait", [], .tup (asc (waitsOf σ s)), []⟩ : Out)) else (commS σ s B.keep, ⟨"commit", [], .non, []⟩)).1 = σ
    by_cases c2 : waitsOf σ s ≠ []
    · rw [if_pos c2]
    · rw [if_neg c2] at h
      rcases h with h | h
      · exact absurd h (show ("commit" : Str) ≠ "wait" from by decide +kernel)
      · exact absurd h (show ("commit" : Str) ≠ "void" from by decide +kernel)
  | abo s =>
    rcases h with h | h
    · exact absurd h (show ("abort" : Str) ≠ "wait" from by decide +kernel)
    · exact absurd h (show ("abort" : Str) ≠ "void" from by decide +kernel)
  | req kd s n => exact req_idle w hf hk h
/-- a read's value is a number, and no other step's -/
def VKind (o : Out) : Prop := (o.word = "read" → ∃ z, o.val = .int z) ∧ (o.word ≠ "read" → ∀ z, o.val ≠ .int z)
theorem ask_vkind {B : Bkm} {σ : MIR.S} {kd : Str} {s : Int} {n : Str} {v : Int} (hf : ∀ x ∈ ENT, B.f x ∈ chs x) (hk : kd ∈ KINDS) : VKind (askM B σ kd s n v).2 := by
  have hn : hOf (σ.it n) = none → ansL B kd (spotOf σ s n) (entOf σ kd s n) ∈ (["put", "abort", "last", "old", "skip"] : List Str) := fun h => none_ans hf hk h
  rw [ask_R]
  generalize ansL B kd (spotOf σ s n) (entOf σ kd s n) = an at hn
  unfold askR
  split
  · exact ⟨fun h => absurd h (show ("wait" : Str) ≠ "read" from by decide +kernel), fun _ z h => by cases h⟩
  split
  · exact ⟨fun h => absurd h (show ("wound" : Str) ≠ "read" from by decide +kernel), fun _ z h => by cases h⟩
  split
  · exact ⟨fun h => absurd h (show ("abort" : Str) ≠ "read" from by decide +kernel), fun _ z h => by cases h⟩
  split
  · refine ⟨fun _ => ?_, fun h => absurd rfl h⟩
    show ∃ z, valM (σ.it n) s an = .int z
    unfold valM
    by_cases c1 : an = "open"
    · rw [if_pos c1]
      cases ho : (σ.it n).opn with
      | none => have := hn (by unfold hOf; rw [ho]; rfl); rw [c1] at this; exact absurd this (by decide +kernel)
      | some p => exact ⟨_, rfl⟩
    · rw [if_neg c1]
      by_cases c2 : an = "old"
      · rw [if_pos c2]; exact ⟨_, rfl⟩
      · rw [if_neg c2]; exact ⟨_, rfl⟩
  split
  · exact ⟨fun h => absurd h (show ("skip" : Str) ≠ "read" from by decide +kernel), fun _ z h => by cases h⟩
  · exact ⟨fun h => absurd h (show ("put" : Str) ≠ "read" from by decide +kernel), fun _ z h => by cases h⟩
theorem take_vkind {B : Bkm} {σ : MIR.S} {x : Stp} {v : Int} (hf : ∀ x ∈ ENT, B.f x ∈ chs x) (hk : KdOk x) : VKind (takeM B σ x v).2 := by
  unfold takeM
  by_cases c : (σ.ov x.who).isSome = true
  · rw [if_pos c]; exact ⟨fun h => absurd h (show ("void" : Str) ≠ "read" from by decide +kernel), fun _ z h => by cases h⟩
  rw [if_neg c]
  cases x with
  | com s =>
    show VKind (if waitsOf σ s ≠ [] then (σ, (⟨"wait", [], .tup (asc (waitsOf σ s)), []⟩ : Out)) else (commS σ s B.keep, ⟨"commit", [], .non, []⟩)).2
    by_cases c2 : waitsOf σ s ≠ []
    · rw [if_pos c2]; exact ⟨fun h => absurd h (show ("wait" : Str) ≠ "read" from by decide +kernel), fun _ z h => by cases h⟩
    · rw [if_neg c2]; exact ⟨fun h => absurd h (show ("commit" : Str) ≠ "read" from by decide +kernel), fun _ z h => by cases h⟩
  | abo s => exact ⟨fun h => absurd h (show ("abort" : Str) ≠ "read" from by decide +kernel), fun _ z h => by cases h⟩
  | req kd s n =>
    show VKind (reqM B σ kd s n v).2
    by_cases hw : (askM B σ kd s n v).2.word = "wound"
    · by_cases hs : s ∈ fal σ (hInt (σ.it n))
      · rw [reqM_self hw hs]; exact ⟨fun h => absurd h (show ("abort" : Str) ≠ "read" from by decide +kernel), fun _ z h => by cases h⟩
      · rw [reqM_two hw hs]
        exact ask_vkind (v := v) hf hk
    · rw [reqM_one hw]; exact ask_vkind hf hk
theorem out_good {B : Bkm} (hf : ∀ x ∈ ENT, B.f x ∈ chs x) {xs : List Stp} (hk : ∀ x ∈ xs, KdOk x) (le : xs.length ≤ 100) (i : Nat) : GdO (outN B xs i) := by
  cases e : xs[i]? with
  | none =>
    unfold outN
    rw [e]
    exact ⟨fun e h => (by cases h), fun l h => (by cases h)⟩
  | some x =>
    rw [outN_at e]
    have w := WFS.st (B := B) hf hk i
    have mx := List.mem_of_getElem? e
    unfold takeM
    by_cases c : ((stN B xs i).ov x.who).isSome = true
    · rw [if_pos c]; exact ⟨fun e h => (by cases h), fun l h => (by cases h)⟩
    rw [if_neg c]
    cases x with
    | com s =>
      show GdO (if waitsOf (stN B xs i) s ≠ [] then (stN B xs i, (⟨"wait", [], .tup (asc (waitsOf (stN B xs i) s)), []⟩ : Out)) else (commS (stN B xs i) s B.keep, ⟨"commit", [], .non, []⟩)).2
      by_cases c2 : waitsOf (stN B xs i) s ≠ []
      · rw [if_pos c2]
        refine ⟨fun e h => (by cases h), fun l h => ?_⟩
        cases h
        have nd : (waitsOf (stN B xs i) s).Nodup := (w.nd s).sublist List.filter_sublist
        rw [asc_len nd]
        have h1 := nd_le nd (fun x hx => w.sb s x (List.mem_filter.mp hx).1)
        have h2 : (usOf xs).length = xs.length := List.length_map ..
        omega
      · rw [if_neg c2]; exact ⟨fun e h => (by cases h), fun l h => (by cases h)⟩
    | abo s => exact ⟨fun e h => (by cases h), fun l h => (by cases h)⟩
    | req kd s n => exact req_good _ _ (hk _ mx) _ _ _
theorem out_vkind {B : Bkm} (hf : ∀ x ∈ ENT, B.f x ∈ chs x) {xs : List Stp} (hk : ∀ x ∈ xs, KdOk x) {i : Nat} (hi : i < xs.length) : VKind (outN B xs i) := by
  have e : xs[i]? = some xs[i] := List.getElem?_eq_getElem hi
  rw [outN_at e]
  exact take_vkind hf (hk _ (List.getElem_mem hi))
end
end K11

namespace K11
open PySem L2 SI CM BK OWN MIR StX TX TL
section
variable {w : World} {K : PySem.W.Frag} {mg : Str → Option Value} {base : Heap} (T : Txt w K mg)
/-! the maths of serial parts -/
theorem asc_ex : ∀ L : List Int, ∃ M, IsAsc L M
  | [] => ⟨[], .nil, fun x => Iff.rfl⟩
  | a :: L => by
    obtain ⟨M, h1, h2⟩ := asc_ex L
    refine ⟨M.filter (fun x => decide (x < a)) ++ a :: M.filter (fun x => decide (a < x)), ?_, fun x => ?_⟩
    · refine List.pairwise_append.mpr ⟨h1.sublist List.filter_sublist, List.pairwise_cons.mpr ⟨fun y hy => of_decide_eq_true (List.mem_filter.mp hy).2, h1.sublist List.filter_sublist⟩, fun y hy z hz => ?_⟩
      have y1 : y < a := of_decide_eq_true (List.mem_filter.mp hy).2
      rcases List.mem_cons.mp hz with e | e
      · rw [e]; exact y1
      · have : a < z := of_decide_eq_true (List.mem_filter.mp e).2
        omega
    · rw [List.mem_append, List.mem_cons, List.mem_cons, List.mem_filter, List.mem_filter, h2 x]
      constructor
      · rintro (⟨h, _⟩ | e | ⟨h, _⟩)
        · exact .inr h
        · exact .inl e
        · exact .inr h
      · rintro (e | h)
        · exact .inr (.inl e)
        · rcases Int.lt_trichotomy x a with c | c | c
          · exact .inl ⟨h, decide_eq_true c⟩
          · exact .inr (.inl c)
          · exact .inr (.inr ⟨h, decide_eq_true c⟩)
theorem asc_is (L : List Int) : IsAsc L (asc L) := by
  obtain ⟨M, h⟩ := asc_ex L
  rw [asc_eq h]; exact h
theorem mem_asc {L : List Int} {x : Int} : x ∈ asc L ↔ x ∈ L := (asc_is L).2 x
/-! a run moved: other stamps in the same order, other names -/
structure Mv (N : List Str) where
  μ : Int → Int
  μi : Int → Option Int
  ν : Str → Str
  νi : Str → Option Str
  lt : ∀ {a b : Int}, a < b → μ a < μ b
  z : μ 0 = 0
  l : ∀ t, μi (μ t) = some t
  r : ∀ {t u : Int}, μi t = some u → t = μ u
  nl : ∀ n ∈ N, νi (ν n) = some n
  nr : ∀ {m n : Str}, νi m = some n → m = ν n
namespace Mv
variable {N : List Str} (M : Mv N)
theorem inj {a b : Int} : M.μ a = M.μ b ↔ a = b := ⟨fun h => by
  have h1 := M.l a
  rw [h, M.l b] at h1
  exact (Option.some.inj h1).symm, fun h => by rw [h]⟩
theorem lt_iff {a b : Int} : M.μ a < M.μ b ↔ a < b := ⟨fun h => by
  rcases Int.lt_trichotomy a b with c | c | c
  · exact c
  · rw [c] at h; omega
  · have := M.lt c; omega, M.lt⟩
theorem le_iff {a b : Int} : M.μ a ≤ M.μ b ↔ a ≤ b := ⟨fun h => by
  rcases Int.lt_or_le b a with c | c
  · have := M.lt c; omega
  · exact c, fun h => by
  rcases Int.lt_or_eq_of_le h with c | c
  · exact Int.le_of_lt (M.lt c)
  · rw [c]; exact Int.le_refl _⟩
theorem ninj {a b : Str} (ha : a ∈ N) (hb : b ∈ N) : M.ν a = M.ν b ↔ a = b := ⟨fun h => by
  have h1 := M.nl a ha
  rw [h, M.nl b hb] at h1
  exact (Option.some.inj h1).symm, fun h => by rw [h]⟩
theorem mem {t : Int} {L : List Int} : M.μ t ∈ L.map M.μ ↔ t ∈ L := ⟨fun h => by
  obtain ⟨u, hu, e⟩ := List.mem_map.mp h
  rw [← M.inj.mp e]; exact hu, fun h => List.mem_map.mpr ⟨t, h, rfl⟩⟩
theorem nmem {t : Int} {L : List Int} (h : M.μi t = none) : t ∉ L.map M.μ := fun q => by
  obtain ⟨u, _, e⟩ := List.mem_map.mp q
  rw [← e, M.l u] at h; cases h
def mI (i : MIR.It) : MIR.It := ⟨i.kept.map fun p => (M.μ p.1, p.2), i.opn.map fun p => (M.μ p.1, p.2), M.μ i.rd⟩
def mN (σ : MIR.S) (m : Str) : MIR.It := match M.νi m with | some n => M.mI (σ.it n) | none => it0
def mV (σ : MIR.S) (t : Int) : Option Bool := match M.μi t with | some u => σ.ov u | none => none
def mB (σ : MIR.S) (t : Int) : List Int := match M.μi t with | some u => (σ.bd u).map M.μ | none => []
def mS (σ : MIR.S) : MIR.S := ⟨M.mN σ, M.mV σ, M.mB σ⟩
def mOV : OV → OV
  | .tup l => .tup (l.map M.μ)
  | o => o
def mOut (o : Out) : Out := ⟨o.word, o.met, M.mOV o.val, o.fallen.map M.μ⟩
theorem it (σ : MIR.S) {n : Str} (h : n ∈ N) : (M.mS σ).it (M.ν n) = M.mI (σ.it n) := by
  show M.mN σ (M.ν n) = _
  unfold mN; rw [M.nl n h]
theorem ov (σ : MIR.S) (t : Int) : (M.mS σ).ov (M.μ t) = σ.ov t := by
  show M.mV σ (M.μ t) = _
  unfold mV; rw [M.l t]
theorem bd (σ : MIR.S) (t : Int) : (M.mS σ).bd (M.μ t) = (σ.bd t).map M.μ := by
  show M.mB σ (M.μ t) = _
  unfold mB; rw [M.l t]
theorem it0_ : M.mI it0 = it0 := by
  show MIR.It.mk [(M.μ 0, 0)] none (M.μ 0) = ⟨[(0, 0)], none, 0⟩
  rw [M.z]
theorem lastV_ (i : MIR.It) : lastV (M.mI i) = (M.μ (lastV i).1, (lastV i).2) := by
  unfold lastV mI
  show (i.kept.map fun p => (M.μ p.1, p.2)).getLastD (0, 0) = _
  rw [List.getLastD_eq_getLast?, List.getLastD_eq_getLast?, List.getLast?_map]
  cases i.kept.getLast? with
  | none => show ((0, 0) : Int × Int) = (M.μ 0, 0); rw [M.z]
  | some p => rfl
theorem hOf_ (i : MIR.It) : hOf (M.mI i) = (hOf i).map M.μ := by
  unfold hOf mI
  cases i.opn <;> rfl
theorem hInt_ (i : MIR.It) : hInt (M.mI i) = M.μ (hInt i) := by
  unfold hInt mI
  cases i.opn with
  | none => exact M.z.symm
  | some _ => rfl
theorem place_ (s w : Int) (h : Option Int) : placeM (M.μ s) (M.μ w) (h.map M.μ) = placeM s w h := by
  cases h with
  | none =>
    show (if M.μ w < M.μ s then ("free" : Str) else "late") = (if w < s then ("free" : Str) else "late")
    by_cases c : w < s
    · rw [if_pos c, if_pos (M.lt_iff.mpr c)]
    · rw [if_neg c, if_neg (fun q => c (M.lt_iff.mp q))]
  | some h =>
    show (if M.μ h = M.μ s then ("own" : Str) else if M.μ s < M.μ w then "under" else if M.μ s < M.μ h then "below" else "above") = (if h = s then ("own" : Str) else if s < w then "under" else if s < h then "below" else "above")
    by_cases c : h = s
    · rw [if_pos c, if_pos (M.inj.mpr c)]
    rw [if_neg c, if_neg (fun q => c (M.inj.mp q))]
    by_cases c : s < w
    · rw [if_pos c, if_pos (M.lt_iff.mpr c)]
    rw [if_neg c, if_neg (fun q => c (M.lt_iff.mp q))]
    by_cases c : s < h
    · rw [if_pos c, if_pos (M.lt_iff.mpr c)]
    · rw [if_neg c, if_neg (fun q => c (M.lt_iff.mp q))]
theorem oldM_ (i : MIR.It) (s : Int) : oldM (M.mI i) (M.μ s) = oldM i s := by
  unfold oldM mI
  show ((i.kept.map fun p => (M.μ p.1, p.2)).filter fun p => decide (p.1 < M.μ s)).map (·.2) = _
  rw [List.filter_map, List.map_map]
  have e : ((fun p : Int × Int => decide (p.1 < M.μ s)) ∘ fun p : Int × Int => (M.μ p.1, p.2)) = fun p => decide (p.1 < s) := by
    funext p
    show decide (M.μ p.1 < M.μ s) = _
    by_cases c : p.1 < s
    · rw [decide_eq_true c, decide_eq_true (M.lt_iff.mpr c)]
    · rw [decide_eq_false c, decide_eq_false (fun q => c (M.lt_iff.mp q))]
  rw [e]; rfl
theorem valM_ (i : MIR.It) (s : Int) (a : Str) : valM (M.mI i) (M.μ s) a = M.mOV (valM i s a) := by
  unfold valM
  by_cases c1 : a = "open"
  · rw [if_pos c1, if_pos c1]
    unfold mI
    cases i.opn <;> rfl
  · rw [if_neg c1, if_neg c1]
    by_cases c2 : a = "old"
    · rw [if_pos c2, if_pos c2, M.oldM_]; rfl
    · rw [if_neg c2, if_neg c2, M.lastV_]; rfl
theorem relI_ (L : List Int) (i : MIR.It) : relI (L.map M.μ) (M.mI i) = M.mI (relI L i) := by
  unfold relI
  cases e : i.opn with
  | none => unfold mI; rw [e]; rfl
  | some p =>
    have e2 : (M.mI i).opn = some (M.μ p.1, p.2) := by unfold mI; rw [e]; rfl
    rw [e2]
    show (if M.μ p.1 ∈ L.map M.μ then { M.mI i with opn := none } else M.mI i) = M.mI (if p.1 ∈ L then { i with opn := none } else i)
    by_cases c : p.1 ∈ L
    · rw [if_pos c, if_pos (M.mem.mpr c)]; rfl
    · rw [if_neg c, if_neg (fun q => c (M.mem.mp q))]
theorem setI_ (s : Int) (k : Nat) (i : MIR.It) : setI (M.μ s) k (M.mI i) = M.mI (setI s k i) := by
  unfold setI
  cases e : i.opn with
  | none => unfold mI; rw [e]; rfl
  | some p =>
    have e2 : (M.mI i).opn = some (M.μ p.1, p.2) := by unfold mI; rw [e]; rfl
    rw [e2]
    show (if M.μ p.1 = M.μ s then { M.mI i with kept := lastN k ((M.mI i).kept ++ [(M.μ s, p.2)]), opn := none } else M.mI i) = M.mI (if p.1 = s then { i with kept := lastN k (i.kept ++ [(s, p.2)]), opn := none } else i)
    by_cases c : p.1 = s
    · rw [if_pos c, if_pos (M.inj.mpr c)]
      unfold mI
      show MIR.It.mk _ _ _ = MIR.It.mk _ _ _
      congr 1
      show lastN k ((i.kept.map fun p => (M.μ p.1, p.2)) ++ [(M.μ s, p.2)]) = (lastN k (i.kept ++ [(s, p.2)])).map fun p => (M.μ p.1, p.2)
      rw [← map_lastN, List.map_append]; rfl
    · rw [if_neg c, if_neg (fun q => c (M.inj.mp q))]
theorem reach_ {σ : MIR.S} {s t' : Int} : Reach (M.mS σ) (M.μ s) t' ↔ ∃ t, t' = M.μ t ∧ Reach σ s t := by
  constructor
  · intro h
    induction h with
    | refl => exact ⟨s, rfl, .refl⟩
    | @step t u _ hu ho ih =>
      obtain ⟨u0, rfl, r0⟩ := ih
      have hu : M.μ u0 ∈ M.mB σ t := hu
      have ho : M.mV σ t = none := ho
      unfold mB at hu
      unfold mV at ho
      cases e : M.μi t with
      | none => rw [e] at hu; cases hu
      | some v =>
        rw [e] at hu ho
        exact ⟨v, M.r e, .step r0 (M.mem.mp hu) ho⟩
  · rintro ⟨t, rfl, h⟩
    induction h with
    | refl => exact .refl
    | step _ hu ho ih => exact .step ih (by rw [M.bd]; exact M.mem.mpr hu) (by rw [M.ov]; exact ho)
theorem fal_ {σ : MIR.S} {s : Int} (h : IsF σ s (fal σ s)) : fal (M.mS σ) (M.μ s) = (fal σ s).map M.μ := by
  refine fal_eq ⟨?_, fun t => ?_⟩
  · exact List.pairwise_map.mpr (h.1.imp fun q => M.lt q)
  · rw [M.reach_, List.mem_map]
    exact ⟨fun ⟨u, hu, e⟩ => ⟨u, e.symm, (h.2 u).mp hu⟩, fun ⟨u, e, hu⟩ => ⟨u, (h.2 u).mpr hu, e.symm⟩⟩
theorem asc_ (L : List Int) : asc (L.map M.μ) = (asc L).map M.μ := by
  refine asc_eq ⟨List.pairwise_map.mpr ((asc_is L).1.imp fun q => M.lt q), fun t => ?_⟩
  rw [List.mem_map, List.mem_map]
  exact ⟨fun ⟨u, hu, e⟩ => ⟨u, mem_asc.mp hu, e⟩, fun ⟨u, hu, e⟩ => ⟨u, mem_asc.mpr hu, e⟩⟩
theorem waits_ (σ : MIR.S) (s : Int) : waitsOf (M.mS σ) (M.μ s) = (waitsOf σ s).map M.μ := by
  unfold waitsOf
  rw [M.bd, List.filter_map]
  congr 1
  refine List.filter_congr fun t _ => ?_
  show ((M.mS σ).ov (M.μ t)).isNone = _
  rw [M.ov]
theorem fallS_ (σ : MIR.S) (L : List Int) : fallS (M.mS σ) (L.map M.μ) = M.mS (fallS σ L) := by
  show MIR.S.mk _ _ _ = MIR.S.mk _ _ _
  congr 1
  · funext m
    show relI (L.map M.μ) (M.mN σ m) = M.mN (fallS σ L) m
    unfold mN
    cases M.νi m with
    | none => exact relI0
    | some n => exact M.relI_ L (σ.it n)
  · funext t
    show (if t ∈ L.map M.μ then some false else M.mV σ t) = M.mV (fallS σ L) t
    unfold mV
    cases e : M.μi t with
    | none => rw [if_neg (M.nmem e)]
    | some u =>
      rw [M.r e]
      show (if M.μ u ∈ L.map M.μ then some false else σ.ov u) = if u ∈ L then some false else σ.ov u
      by_cases c : u ∈ L
      · rw [if_pos c, if_pos (M.mem.mpr c)]
      · rw [if_neg c, if_neg (fun q => c (M.mem.mp q))]
theorem commS_ (σ : MIR.S) (s : Int) (k : Nat) : commS (M.mS σ) (M.μ s) k = M.mS (commS σ s k) := by
  show MIR.S.mk _ _ _ = MIR.S.mk _ _ _
  congr 1
  · funext m
    show setI (M.μ s) k (M.mN σ m) = M.mN (commS σ s k) m
    unfold mN
    cases M.νi m with
    | none => exact setI0
    | some n => exact M.setI_ s k (σ.it n)
  · funext t
    show (if t = M.μ s then some true else M.mV σ t) = M.mV (commS σ s k) t
    unfold mV
    cases e : M.μi t with
    | none => rw [if_neg (fun q => by rw [q, M.l] at e; cases e)]
    | some u =>
      rw [M.r e]
      show (if M.μ u = M.μ s then some true else σ.ov u) = if u = s then some true else σ.ov u
      by_cases c : u = s
      · rw [if_pos c, if_pos (M.inj.mpr c)]
      · rw [if_neg c, if_neg (fun q => c (M.inj.mp q))]
theorem bondS_ (σ : MIR.S) (s h : Int) : bondS (M.mS σ) (M.μ s) (M.μ h) = M.mS (bondS σ s h) := by
  unfold bondS
  rw [M.bd]
  by_cases c : h ∈ σ.bd s
  · rw [if_pos c, if_pos (M.mem.mpr c)]
  rw [if_neg c, if_neg (fun q => c (M.mem.mp q))]
  show MIR.S.mk _ _ _ = MIR.S.mk _ _ _
  congr 1
  funext t
  show (if t = M.μ s then (σ.bd s).map M.μ ++ [M.μ h] else M.mB σ t) = M.mB _ t
  unfold mB
  cases e : M.μi t with
  | none => rw [if_neg (fun q => by rw [q, M.l] at e; cases e)]
  | some u =>
    rw [M.r e]
    show (if M.μ u = M.μ s then (σ.bd s).map M.μ ++ [M.μ h] else (σ.bd u).map M.μ) = (if u = s then σ.bd s ++ [h] else σ.bd u).map M.μ
    by_cases c : u = s
    · rw [if_pos c, if_pos (M.inj.mpr c), List.map_append]; rfl
    · rw [if_neg c, if_neg (fun q => c (M.inj.mp q))]
theorem itS_ (σ : MIR.S) {n : Str} (hn : n ∈ N) (i : MIR.It) : itS (M.mS σ) (M.ν n) (M.mI i) = M.mS (itS σ n i) := by
  show MIR.S.mk _ _ _ = MIR.S.mk _ _ _
  congr 1
  funext m
  show (if m = M.ν n then M.mI i else M.mN σ m) = M.mN (itS σ n i) m
  unfold mN
  cases e : M.νi m with
  | none => rw [if_neg (fun q => by rw [q, M.nl n hn] at e; cases e)]
  | some n' =>
    show _ = M.mI (if n' = n then i else σ.it n')
    by_cases c : n' = n
    · rw [if_pos c, if_pos (by rw [M.nr e, c])]
    · rw [if_neg c, if_neg (fun q => c (by rw [q, M.nl n hn] at e; exact (Option.some.inj e).symm))]
theorem readS_ (σ : MIR.S) {n : Str} (hn : n ∈ N) (s : Int) : readS (M.mS σ) (M.ν n) (M.μ s) = M.mS (readS σ n s) := by
  unfold readS
  rw [M.it σ hn]
  show (if M.μ s ≤ M.μ (σ.it n).rd then _ else _) = _
  by_cases c : s ≤ (σ.it n).rd
  · rw [if_pos c, if_pos (M.le_iff.mpr c)]
  · rw [if_neg c, if_neg (fun q => c (M.le_iff.mp q))]
    exact M.itS_ σ hn { σ.it n with rd := s }
theorem spot_ (σ : MIR.S) {n : Str} (hn : n ∈ N) (s : Int) : spotOf (M.mS σ) (M.μ s) (M.ν n) = spotOf σ s n := by
  unfold spotOf
  rw [M.it σ hn, M.lastV_, M.hOf_]
  exact M.place_ _ _ _
theorem ent_ (σ : MIR.S) {n : Str} (hn : n ∈ N) (kd : Str) (s : Int) : entOf (M.mS σ) kd (M.μ s) (M.ν n) = entOf σ kd s n := by
  unfold entOf
  rw [M.spot_ σ hn, M.it σ hn]
  have : decide ((M.mI (σ.it n)).rd > M.μ s) = decide ((σ.it n).rd > s) := by
    show decide (M.μ s < M.μ (σ.it n).rd) = decide (s < (σ.it n).rd)
    by_cases c : s < (σ.it n).rd
    · rw [decide_eq_true c, decide_eq_true (M.lt_iff.mpr c)]
    · rw [decide_eq_false c, decide_eq_false (fun q => c (M.lt_iff.mp q))]
  rw [this]
theorem askM_ {B : Bkm} (hf : ∀ x ∈ ENT, B.f x ∈ chs x) {U : List Int} {σ : MIR.S} (w : WFS U σ) {kd : Str} (hk : kd ∈ KINDS) {s : Int} (hs : s ∈ U) {n : Str} (hn : n ∈ N) (v : Int) :
    askM B (M.mS σ) kd (M.μ s) (M.ν n) v = (M.mS (askM B σ kd s n v).1, M.mOut (askM B σ kd s n v).2) := by
  have hno : hOf (σ.it n) = none → ansL B kd (spotOf σ s n) (entOf σ kd s n) ∈ (["put", "abort", "last", "old", "skip"] : List Str) := fun h => none_ans hf hk h
  rw [ask_R, ask_R, M.spot_ σ hn, M.ent_ σ hn]
  generalize ansL B kd (spotOf σ s n) (entOf σ kd s n) = an at hno
  generalize metL (entOf σ kd s n) = m
  unfold askR
  rw [M.spot_ σ hn, M.it σ hn, M.hInt_, M.oldM_, M.valM_, M.fal_ (w.isF hs).1, M.fallS_]
  have e4 : (if bindM B.ends (spotOf σ s n) an = true then bondS (M.mS σ) (M.μ s) (M.μ (hInt (σ.it n))) else M.mS σ) = M.mS (if bindM B.ends (spotOf σ s n) an = true then bondS σ s (hInt (σ.it n)) else σ) := by
    by_cases c : bindM B.ends (spotOf σ s n) an = true
    · rw [if_pos c, if_pos c, M.bondS_]
    · rw [if_neg c, if_neg c]
  rw [e4]
  by_cases c1 : an = "wait"
  · rw [if_pos c1, if_pos c1]; rfl
  rw [if_neg c1, if_neg c1]
  by_cases c2 : an = "wound"
  · rw [if_pos c2, if_pos c2]
    have hh : IsF σ (hInt (σ.it n)) (fal σ (hInt (σ.it n))) := by
      cases ho : (σ.it n).opn with
      | none =>
        have := hno (by unfold hOf; rw [ho]; rfl)
        rw [c2] at this; exact absurd this (by decide +kernel)
      | some p =>
        have : hInt (σ.it n) = p.1 := by unfold hInt; rw [ho]
        rw [this]
        exact (w.isF (w.ho n p.1 p.2 ho)).1
    rw [M.fal_ hh, M.fallS_]; rfl
  rw [if_neg c2, if_neg c2]
  by_cases c3 : an = "abort" ∨ (an = "old" ∧ oldM (σ.it n) s = [])
  · rw [if_pos c3, if_pos c3]; rfl
  rw [if_neg c3, if_neg c3]
  by_cases c4 : kd = "read"
  · rw [if_pos c4, if_pos c4, M.readS_ _ hn]; rfl
  rw [if_neg c4, if_neg c4]
  by_cases c5 : an = "skip"
  · rw [if_pos c5, if_pos c5]; rfl
  rw [if_neg c5, if_neg c5]
  refine Prod.ext ?_ rfl
  exact M.itS_ _ hn { σ.it n with opn := some (s, v) }
theorem reqM_ {B : Bkm} (hf : ∀ x ∈ ENT, B.f x ∈ chs x) {U : List Int} {σ : MIR.S} (w : WFS U σ) {kd : Str} (hk : kd ∈ KINDS) {s : Int} (hs : s ∈ U) {n : Str} (hn : n ∈ N) (v : Int) :
    reqM B (M.mS σ) kd (M.μ s) (M.ν n) v = (M.mS (reqM B σ kd s n v).1, M.mOut (reqM B σ kd s n v).2) := by
  have w1 := w.ask hf hk hs n v
  unfold reqM
  rw [M.askM_ hf w hk hs hn]
  show (if (askM B σ kd s n v).2.word ≠ "wound" then _ else if M.μ s ∈ (askM B σ kd s n v).2.fallen.map M.μ then _ else _) = _
  by_cases c1 : (askM B σ kd s n v).2.word ≠ "wound"
  · rw [if_pos c1, if_pos c1]
  rw [if_neg c1, if_neg c1]
  by_cases c2 : s ∈ (askM B σ kd s n v).2.fallen
  · rw [if_pos c2, if_pos (M.mem.mpr c2)]; rfl
  rw [if_neg c2, if_neg (fun q => c2 (M.mem.mp q))]
  show ((askM B (M.mS (askM B σ kd s n v).1) kd (M.μ s) (M.ν n) v).1, _) = _
  rw [M.askM_ hf w1 hk hs hn]
  refine Prod.ext rfl ?_
  show Out.mk _ _ _ _ = Out.mk _ _ _ _
  congr 1
  show asc ((askM B σ kd s n v).2.fallen.map M.μ ++ (askM B (askM B σ kd s n v).1 kd s n v).2.fallen.map M.μ) = _
  rw [← List.map_append, M.asc_]
def mX : Stp → Stp
  | .req k s n => .req k (M.μ s) (M.ν n)
  | .com s => .com (M.μ s)
  | .abo s => .abo (M.μ s)
theorem mX_who (x : Stp) : (M.mX x).who = M.μ x.who := by cases x <;> rfl
def InX (N : List Str) : Stp → Prop
  | .req _ _ n => n ∈ N
  | _ => True
theorem takeM_ {B : Bkm} (hf : ∀ x ∈ ENT, B.f x ∈ chs x) {U : List Int} {σ : MIR.S} (w : WFS U σ) {x : Stp} (hk : KdOk x) (hx : x.who ∈ U) (hn : InX N x) (v : Int) :
    takeM B (M.mS σ) (M.mX x) v = (M.mS (takeM B σ x v).1, M.mOut (takeM B σ x v).2) := by
  unfold takeM
  rw [M.mX_who, M.ov]
  by_cases c : (σ.ov x.who).isSome = true
  · rw [if_pos c, if_pos c]; rfl
  rw [if_neg c, if_neg c]
  cases x with
  | com s =>
    show (if waitsOf (M.mS σ) (M.μ s) ≠ [] then _ else _) = (M.mS (if waitsOf σ s ≠ [] then (σ, (⟨"wait", [], .tup (asc (waitsOf σ s)), []⟩ : Out)) else (commS σ s B.keep, ⟨"commit", [], .non, []⟩)).1, M.mOut (if waitsOf σ s ≠ [] then (σ, (⟨"wait", [], .tup (asc (waitsOf σ s)), []⟩ : Out)) else (commS σ s B.keep, ⟨"commit", [], .non, []⟩)).2)
    rw [M.waits_, M.commS_]
    by_cases c2 : waitsOf σ s = []
    · rw [if_neg (fun q => q (by rw [c2]; rfl)), if_neg (fun q => q c2)]; rfl
    · rw [if_pos (fun q => c2 (List.map_eq_nil_iff.mp q)), if_pos c2, M.asc_]; rfl
  | abo s =>
    show (fallS (M.mS σ) (fal (M.mS σ) (M.μ s)), _) = (M.mS (fallS σ (fal σ s)), _)
    rw [M.fal_ (w.isF (s := s) hx).1, M.fallS_]
    rfl
  | req kd s n => exact M.reqM_ hf w hk hx hn v
end Mv
section
variable {N : List Str} (M : Mv N) {B : Bkm} (hf : ∀ x ∈ ENT, B.f x ∈ chs x) {xs : List Stp} (hk : ∀ x ∈ xs, KdOk x) (hn : ∀ x ∈ xs, Mv.InX N x)
theorem mv_s0 : M.mS s0 = s0 := by
  show MIR.S.mk _ _ _ = MIR.S.mk _ _ _
  congr 1
  · funext m
    show M.mN s0 m = it0
    unfold Mv.mN
    cases M.νi m with
    | none => rfl
    | some n => exact M.it0_
  · funext t
    show M.mV s0 t = none
    unfold Mv.mV
    cases M.μi t <;> rfl
  · funext t
    show M.mB s0 t = []
    unfold Mv.mB
    cases M.μi t <;> rfl
include hf hk hn
theorem mv_st : ∀ i, stN B (xs.map M.mX) i = M.mS (stN B xs i)
  | 0 => (mv_s0 M).symm
  | i + 1 => by
    cases e : xs[i]? with
    | none =>
      have h1 : stN B xs (i + 1) = stN B xs i := by
        show (match xs[i]? with | some x => (takeM B (stN B xs i) x (1 + (i : Nat))).1 | none => stN B xs i) = _
        rw [e]
      have h2 : stN B (xs.map M.mX) (i + 1) = stN B (xs.map M.mX) i := by
        show (match (xs.map M.mX)[i]? with | some x => (takeM B (stN B (xs.map M.mX) i) x (1 + (i : Nat))).1 | none => stN B (xs.map M.mX) i) = _
        rw [List.getElem?_map, e]; rfl
      rw [h1, h2]; exact mv_st i
    | some x =>
      have mx := List.mem_of_getElem? e
      have e2 : (xs.map M.mX)[i]? = some (M.mX x) := by rw [List.getElem?_map, e]; rfl
      rw [stN_at e, stN_at e2, mv_st i, M.takeM_ hf (WFS.st hf hk i) (hk x mx) (List.mem_map.mpr ⟨x, mx, rfl⟩) (hn x mx)]
theorem mv_out (i : Nat) : outN B (xs.map M.mX) i = M.mOut (outN B xs i) := by
  cases e : xs[i]? with
  | none =>
    have h1 : outN B xs i = ⟨"", [], .non, []⟩ := by unfold outN; rw [e]
    have h2 : outN B (xs.map M.mX) i = ⟨"", [], .non, []⟩ := by unfold outN; rw [List.getElem?_map, e]; rfl
    rw [h1, h2]; rfl
  | some x =>
    have mx := List.mem_of_getElem? e
    have e2 : (xs.map M.mX)[i]? = some (M.mX x) := by rw [List.getElem?_map, e]; rfl
    rw [outN_at e, outN_at e2, mv_st M hf hk hn i, M.takeM_ hf (WFS.st hf hk i) (hk x mx) (List.mem_map.mpr ⟨x, mx, rfl⟩) (hn x mx)]
end
end
end K11

/-! A machine that the kernel can run: states as lists, a book of which only some answers are known. -/
namespace MIR
open PySem L2 CM BK
def gt {α β : Type} [DecidableEq α] (l : List (α × β)) (a : α) : Option β := match l with
  | [] => none
  | (k, v) :: r => if k = a then some v else gt r a
structure CS where
  it : List (Str × It)
  ov : List (Int × Bool)
  bd : List (Int × List Int)
def CS.S (c : CS) : S := ⟨fun n => (gt c.it n).getD it0, fun t => gt c.ov t, fun t => (gt c.bd t).getD []⟩
def c0 : CS := ⟨[], [], []⟩
inductive R (α : Type) where
  | ok (a : α)
  | need (e : Str)
  | bad
section
variable {α β : Type} [DecidableEq α]
theorem gt_cons (k : α) (v : β) (l : List (α × β)) (a : α) : gt ((k, v) :: l) a = if k = a then some v else gt l a := rfl
theorem gt_map (f : β → β) (a : α) : ∀ l : List (α × β), gt (l.map fun p => (p.1, f p.2)) a = (gt l a).map f
  | [] => rfl
  | (k, v) :: r => by
    show (if k = a then some (f v) else gt (r.map fun p => (p.1, f p.2)) a) = _
    rw [gt_map f a r, gt_cons]
    split <;> rfl
theorem gt_mem {a : α} {b : β} : ∀ {l : List (α × β)}, gt l a = some b → (a, b) ∈ l
  | (k, v) :: r, h => by
    rw [gt_cons] at h
    split at h
    · rename_i e
      cases h
      rw [e]; exact List.mem_cons_self ..
    · exact List.mem_cons_of_mem _ (gt_mem h)
end
theorem s0_c : c0.S = s0 := rfl
/-! who falls -/
def clo (U : List Int) (c : CS) : Nat → List Int → List Int
  | 0, L => L
  | n + 1, L => clo U c n (L ++ U.filter fun t => !decide (t ∈ L) && ((gt c.ov t).isNone && ((gt c.bd t).getD []).any fun u => decide (u ∈ L)))
def prw : List Int → Bool
  | [] => true
  | x :: r => r.all (fun y => decide (x < y)) && prw r
theorem prw_ok : ∀ {l : List Int}, prw l = true → l.Pairwise (· < ·)
  | [], _ => .nil
  | x :: r, h => by
    have h' : (r.all (fun y => decide (x < y)) && prw r) = true := h
    rw [Bool.and_eq_true, List.all_eq_true] at h'
    exact .cons (fun y hy => of_decide_eq_true (h'.1 y hy)) (prw_ok h'.2)
def falC (U : List Int) (c : CS) (s : Int) : Option (List Int) :=
  let L := clo U c U.length [s]
  let M := U.filter fun t => decide (t ∈ L)
  if (prw M && (L.all (fun t => decide (t ∈ M)) && (U.all (fun t => decide (t ∈ L) || !((gt c.ov t).isNone && ((gt c.bd t).getD []).any fun u => decide (u ∈ L))) && c.bd.all fun p => decide (p.1 ∈ U)))) = true then some M else none
theorem clo_reach {U : List Int} {c : CS} {s : Int} : ∀ (n : Nat) (L : List Int), (∀ t ∈ L, Reach c.S s t) → (∀ t ∈ L, t ∈ clo U c n L) ∧ ∀ t ∈ clo U c n L, Reach c.S s t
  | 0, L, h => ⟨fun _ z => z, h⟩
  | n + 1, L, h => by
    have h2 : ∀ t ∈ L ++ U.filter (fun t => !decide (t ∈ L) && ((gt c.ov t).isNone && ((gt c.bd t).getD []).any fun u => decide (u ∈ L))), Reach c.S s t := fun t ht => by
      rcases List.mem_append.mp ht with ht | ht
      · exact h t ht
      · have z := (List.mem_filter.mp ht).2
        rw [Bool.and_eq_true, Bool.and_eq_true, List.any_eq_true] at z
        obtain ⟨_, z1, u, z2, z3⟩ := z
        exact .step (h u (of_decide_eq_true z3)) z2 (Option.isNone_iff_eq_none.mp z1)
    obtain ⟨a, b⟩ := clo_reach (U := U) (c := c) n _ h2
    exact ⟨fun t ht => a t (List.mem_append_left _ ht), b⟩
theorem falC_ok {U : List Int} {c : CS} {s : Int} {M : List Int} (h : falC U c s = some M) : fal c.S s = M := by
  unfold falC at h
  dsimp only at h
  split at h
  · rename_i e
    cases h
    rw [Bool.and_eq_true, Bool.and_eq_true, Bool.and_eq_true, List.all_eq_true, List.all_eq_true, List.all_eq_true] at e
    obtain ⟨e1, e2, e3, e4⟩ := e
    obtain ⟨r1, r2⟩ := clo_reach (U := U) (c := c) (s := s) U.length [s] fun t ht => by rw [List.mem_singleton.mp ht]; exact .refl
    refine fal_eq ⟨prw_ok e1, fun t => ⟨fun ht => r2 t (of_decide_eq_true (List.mem_filter.mp ht).2), fun ht => ?_⟩⟩
    have : t ∈ clo U c U.length [s] := by
      induction ht with
      | refl => exact r1 s (List.mem_singleton.mpr rfl)
      | @step t u _ m o ih =>
        have m' : u ∈ (gt c.bd t).getD [] := m
        have tU : t ∈ U := by
          cases z : gt c.bd t with
          | none => rw [z] at m'; cases m'
          | some l => exact of_decide_eq_true (e4 _ (gt_mem z))
        have z := e3 t tU
        rw [Bool.or_eq_true] at z
        rcases z with z | z
        · exact of_decide_eq_true z
        · exfalso
          have o' : gt c.ov t = none := o
          rw [o'] at z
          have : (((gt c.bd t).getD []).any fun u => decide (u ∈ clo U c U.length [s])) = true := List.any_eq_true.mpr ⟨u, m', decide_eq_true ih⟩
          rw [this] at z
          cases z
    exact of_decide_eq_true (e2 t this)
  · cases h
def ascC (U L : List Int) : Option (List Int) :=
  let M := U.filter fun t => decide (t ∈ L)
  if (prw M && L.all fun t => decide (t ∈ M)) = true then some M else none
theorem ascC_ok {U L M : List Int} (h : ascC U L = some M) : asc L = M := by
  unfold ascC at h
  dsimp only at h
  split at h
  · rename_i e
    cases h
    rw [Bool.and_eq_true, List.all_eq_true] at e
    exact asc_eq ⟨prw_ok e.1, fun x => ⟨fun hx => of_decide_eq_true (List.mem_filter.mp hx).2, fun hx => of_decide_eq_true (e.2 x hx)⟩⟩
  · cases h
/-! the changes -/
def fallC (c : CS) (L : List Int) : CS := ⟨c.it.map fun p => (p.1, relI L p.2), L.map (fun t => (t, false)) ++ c.ov, c.bd⟩
theorem gt_falls (L : List Int) (ov : List (Int × Bool)) (t : Int) : gt (L.map (fun t => (t, false)) ++ ov) t = if t ∈ L then some false else gt ov t := by
  induction L with
  | nil => rw [if_neg List.not_mem_nil]; rfl
  | cons x l ih =>
    show (if x = t then some false else gt (l.map (fun t => (t, false)) ++ ov) t) = _
    rw [ih]
    by_cases c : x = t
    · rw [if_pos c, if_pos (by rw [c]; exact List.mem_cons_self ..)]
    · rw [if_neg c]
      by_cases m : t ∈ l
      · rw [if_pos m, if_pos (List.mem_cons_of_mem _ m)]
      · rw [if_neg m, if_neg fun q => (List.mem_cons.mp q).elim (fun e => c e.symm) m]
theorem getD_map {β : Type} {f : β → β} {d : β} (h : f d = d) (o : Option β) : (o.map f).getD d = f (o.getD d) := by
  cases o with
  | none => exact h.symm
  | some b => rfl
theorem fallC_ok (c : CS) (L : List Int) : (fallC c L).S = fallS c.S L := by
  unfold fallC CS.S fallS
  congr 1
  · funext n
    show (gt (c.it.map fun p => (p.1, relI L p.2)) n).getD it0 = relI L ((gt c.it n).getD it0)
    rw [gt_map, getD_map rfl]
  · funext t
    exact gt_falls L c.ov t
def setL (s : Int) (k : Nat) (l : List (Str × It)) : List (Str × It) := l.map fun p => (p.1, setI s k p.2)
def commC (c : CS) (s : Int) (k : Nat) : CS := ⟨setL s k c.it, (s, true) :: c.ov, c.bd⟩
theorem commC_ok (c : CS) (s : Int) (k : Nat) : (commC c s k).S = commS c.S s k := by
  unfold commC CS.S commS setL
  congr 1
  · funext n
    show (gt (c.it.map fun p => (p.1, setI s k p.2)) n).getD it0 = setI s k ((gt c.it n).getD it0)
    rw [gt_map, getD_map rfl]
  · funext t
    show (if s = t then some true else gt c.ov t) = if t = s then some true else gt c.ov t
    by_cases e : s = t
    · rw [if_pos e, if_pos e.symm]
    · rw [if_neg e, if_neg fun q => e q.symm]
def bondC (c : CS) (s h : Int) : CS := if h ∈ (gt c.bd s).getD [] then c else ⟨c.it, c.ov, (s, (gt c.bd s).getD [] ++ [h]) :: c.bd⟩
theorem bondC_ok (c : CS) (s h : Int) : (bondC c s h).S = bondS c.S s h := by
  unfold bondC bondS
  show (if h ∈ (gt c.bd s).getD [] then c else _).S = if h ∈ (gt c.bd s).getD [] then c.S else _
  split
  · rfl
  · unfold CS.S
    congr 1
    funext t
    show (if s = t then some ((gt c.bd s).getD [] ++ [h]) else gt c.bd t).getD [] = if t = s then (gt c.bd s).getD [] ++ [h] else (gt c.bd t).getD []
    by_cases e : s = t
    · rw [if_pos e, if_pos e.symm]; rfl
    · rw [if_neg e, if_neg fun q => e q.symm]
def itC (c : CS) (n : Str) (i : It) : CS := ⟨(n, i) :: c.it, c.ov, c.bd⟩
theorem itC_ok (c : CS) (n : Str) (i : It) : (itC c n i).S = itS c.S n i := by
  unfold itC itS CS.S
  congr 1
  funext m
  show (if n = m then some i else gt c.it m).getD it0 = if m = n then i else (gt c.it m).getD it0
  by_cases e : n = m
  · rw [if_pos e, if_pos e.symm]; rfl
  · rw [if_neg e, if_neg fun q => e q.symm]
def CS.item (c : CS) (n : Str) : It := (gt c.it n).getD it0
def readC (c : CS) (n : Str) (s : Int) : CS := if s ≤ (c.item n).rd then c else itC c n { c.item n with rd := s }
theorem readC_ok (c : CS) (n : Str) (s : Int) : (readC c n s).S = readS c.S n s := by
  unfold readC readS
  show (if s ≤ (c.item n).rd then c else _).S = if s ≤ (c.item n).rd then c.S else _
  split
  · rfl
  · exact itC_ok c n _
/-! the asks -/
/-- what of a book's table is known -/
abbrev Tb := List (Str × Str)
def Agr (p : Tb) (f : Str → Str) : Prop := ∀ e a, gt p e = some a → f e = a
def R.bind {α β : Type} (r : R α) (f : α → R β) : R β := match r with
  | .ok a => f a
  | .need e => .need e
  | .bad => .bad
def R.of {α : Type} (o : Option α) : R α := match o with
  | some a => .ok a
  | none => .bad
theorem R.bind_ok {α β : Type} {r : R α} {f : α → R β} {b : β} (h : r.bind f = .ok b) : ∃ a, r = .ok a ∧ f a = .ok b := by
  cases r with
  | ok a => exact ⟨a, rfl, h⟩
  | need e => cases h
  | bad => cases h
theorem R.of_ok {α : Type} {o : Option α} {a : α} (h : R.of o = .ok a) : o = some a := by
  cases o with
  | none => cases h
  | some b => cases h; rfl
def ansC (p : Tb) (kind spot : Str) (e : Option Str) : R Str := match e with
  | none => .ok (fixM kind spot)
  | some e => match gt p e with
    | some a => .ok a
    | none => .need e
def metC : Option Str → List Str
  | none => []
  | some e => [e]
def ansQ (B : Bkm) (kind spot : Str) : Option Str → Str
  | none => fixM kind spot
  | some e => B.f e
noncomputable def askQ (B : Bkm) (σ : S) (kind : Str) (s : Int) (n : Str) (v : Int) (spot : Str) (met : List Str) (ans : Str) : S × Out :=
  let i := σ.it n
  if ans = "wait" then (σ, ⟨"wait", met, .tup [hInt i], []⟩)
  else if ans = "wound" then (fallS σ (fal σ (hInt i)), ⟨"wound", met, .non, fal σ (hInt i)⟩)
  else if ans = "abort" ∨ (ans = "old" ∧ oldM i s = []) then (fallS σ (fal σ s), ⟨"abort", met, .non, fal σ s⟩)
  else
    let σ' := if bindM B.ends spot ans = true then bondS σ s (hInt i) else σ
    if kind = "read" then (readS σ' n s, ⟨"read", met, valM i s ans, []⟩)
    else if ans = "skip" then (σ', ⟨"skip", met, .non, []⟩)
    else (itS σ' n { i with opn := some (s, v) }, ⟨"put", met, .non, []⟩)
theorem askM_Q (B : Bkm) (σ : S) (kind : Str) (s : Int) (n : Str) (v : Int) : askM B σ kind s n v = askQ B σ kind s n v (placeM s (lastV (σ.it n)).1 (hOf (σ.it n)))
    (metC (metM kind (placeM s (lastV (σ.it n)).1 (hOf (σ.it n))) (decide ((σ.it n).rd > s)))) (ansQ B kind (placeM s (lastV (σ.it n)).1 (hOf (σ.it n))) (metM kind (placeM s (lastV (σ.it n)).1 (hOf (σ.it n))) (decide ((σ.it n).rd > s)))) := by
  unfold askM askQ
  dsimp only
  cases metM kind (placeM s (lastV (σ.it n)).1 (hOf (σ.it n))) (decide ((σ.it n).rd > s)) <;> rfl
def askC (p : Tb) (ends : Str) (U : List Int) (c : CS) (kind : Str) (s : Int) (n : Str) (v : Int) : R (CS × Out) :=
  let i := c.item n
  let spot := placeM s (lastV i).1 (hOf i)
  let e := metM kind spot (decide (i.rd > s))
  let met : List Str := metC e
  (ansC p kind spot e).bind fun ans =>
  if ans = "wait" then .ok (c, ⟨"wait", met, .tup [hInt i], []⟩)
  else if ans = "wound" then (R.of (falC U c (hInt i))).bind fun L => .ok (fallC c L, ⟨"wound", met, .non, L⟩)
  else if ans = "abort" ∨ (ans = "old" ∧ oldM i s = []) then (R.of (falC U c s)).bind fun L => .ok (fallC c L, ⟨"abort", met, .non, L⟩)
  else
    let c' := if bindM ends spot ans = true then bondC c s (hInt i) else c
    if kind = "read" then .ok (readC c' n s, ⟨"read", met, valM i s ans, []⟩)
    else if ans = "skip" then .ok (c', ⟨"skip", met, .non, []⟩)
    else .ok (itC c' n { i with opn := some (s, v) }, ⟨"put", met, .non, []⟩)
theorem ansC_ok {p : Tb} {B : Bkm} {kind spot : Str} {e : Option Str} {ans : Str} (A : Agr p B.f) (h : ansC p kind spot e = .ok ans) : ansQ B kind spot e = ans := by
  unfold ansC at h
  cases e with
  | none => cases h; rfl
  | some e =>
    dsimp only at h
    split at h
    · rename_i a e2
      cases h
      exact A _ _ e2
    · cases h
theorem askC_ok {p : Tb} {B : Bkm} {U : List Int} {c c' : CS} {kind : Str} {s : Int} {n : Str} {v : Int} {o : Out} (A : Agr p B.f) (h : askC p B.ends U c kind s n v = .ok (c', o)) : askM B c.S kind s n v = (c'.S, o) := by
  unfold askC at h
  dsimp only at h
  obtain ⟨ans, h1, h2⟩ := R.bind_ok h
  clear h
  have ei : c.S.it n = c.item n := rfl
  rw [askM_Q, ei, ansC_ok A h1]
  unfold askQ
  dsimp only
  rw [ei]
  generalize metC (metM kind (placeM s (lastV (c.item n)).1 (hOf (c.item n))) (decide ((c.item n).rd > s))) = met at h2 ⊢
  split at h2
  · cases h2; rw [if_pos (by assumption)]
  · rename_i n1
    rw [if_neg n1]
    split at h2
    · rename_i e2
      obtain ⟨L, z1, z2⟩ := R.bind_ok h2
      cases z2
      rw [if_pos e2, falC_ok (R.of_ok z1), fallC_ok]
    · rename_i n2
      rw [if_neg n2]
      split at h2
      · rename_i e3
        obtain ⟨L, z1, z2⟩ := R.bind_ok h2
        cases z2
        rw [if_pos e3, falC_ok (R.of_ok z1), fallC_ok]
      · rename_i n3
        rw [if_neg n3]
        have eb : (if bindM B.ends (placeM s (lastV (c.item n)).1 (hOf (c.item n))) ans = true then bondS c.S s (hInt (c.item n)) else c.S) = (if bindM B.ends (placeM s (lastV (c.item n)).1 (hOf (c.item n))) ans = true then bondC c s (hInt (c.item n)) else c).S := by
          split
          · exact (bondC_ok _ _ _).symm
          · rfl
        rw [eb]
        generalize (if bindM B.ends (placeM s (lastV (c.item n)).1 (hOf (c.item n))) ans = true then bondC c s (hInt (c.item n)) else c) = d at h2 ⊢
        split at h2
        · cases h2; rw [if_pos (by assumption), readC_ok]
        · rename_i n4
          rw [if_neg n4]
          split at h2
          · cases h2; rw [if_pos (by assumption)]
          · rename_i n5
            rw [if_neg n5]
            cases h2
            rw [itC_ok]
def reqC (p : Tb) (ends : Str) (U : List Int) (c : CS) (kind : Str) (s : Int) (n : Str) (v : Int) : R (CS × Out) :=
  (askC p ends U c kind s n v).bind fun r =>
  if r.2.word ≠ "wound" then .ok r
  else if s ∈ r.2.fallen then .ok (r.1, { r.2 with word := "abort", val := .non })
  else (askC p ends U r.1 kind s n v).bind fun q => (R.of (ascC U (r.2.fallen ++ q.2.fallen))).bind fun L => .ok (q.1, ⟨q.2.word, r.2.met ++ q.2.met, q.2.val, L⟩)
theorem reqC_ok {p : Tb} {B : Bkm} {U : List Int} {c c' : CS} {kind : Str} {s : Int} {n : Str} {v : Int} {o : Out} (A : Agr p B.f) (h : reqC p B.ends U c kind s n v = .ok (c', o)) : reqM B c.S kind s n v = (c'.S, o) := by
  unfold reqC at h
  obtain ⟨⟨c1, o1⟩, h1, h2⟩ := R.bind_ok h
  have e1 := askC_ok A h1
  unfold reqM
  dsimp only
  rw [e1]
  dsimp only at h2 ⊢
  split at h2
  · cases h2; rw [if_pos (by assumption)]
  · rename_i n1
    rw [if_neg n1]
    split at h2
    · cases h2; rw [if_pos (by assumption)]
    · rename_i n2
      rw [if_neg n2]
      obtain ⟨⟨c2, o2⟩, h3, h4⟩ := R.bind_ok h2
      rw [askC_ok A h3]
      obtain ⟨L, z1, z2⟩ := R.bind_ok h4
      cases z2
      dsimp only
      rw [ascC_ok (R.of_ok z1)]
/-- big: no dict of versions is cut, k or more are kept -/
structure Kp where
  k : Nat
  big : Bool
def Kp.is (q : Kp) (keep : Nat) : Prop := keep = q.k ∨ (q.big = true ∧ q.k ≤ keep)
def fits (q : Kp) (c : CS) : Bool := !q.big || c.it.all fun p => decide (p.2.kept.length + 1 ≤ q.k)
theorem lastN_all {α : Type} {n : Nat} {l : List α} (h : l.length ≤ n) : lastN n l = l := by
  unfold lastN
  rw [Nat.sub_eq_zero_of_le h]; rfl
theorem setL_big {q : Kp} {keep : Nat} {s : Int} (hq : q.is keep) : ∀ {l : List (Str × It)}, (!q.big || l.all fun p => decide (p.2.kept.length + 1 ≤ q.k)) = true → setL s keep l = setL s q.k l := by
  rcases hq with rfl | ⟨hb, hk⟩
  · intro l _; rfl
  · intro l h
    rw [hb, Bool.not_true, Bool.false_or, List.all_eq_true] at h
    unfold setL
    refine List.map_congr_left fun p hp => ?_
    have z := of_decide_eq_true (h p hp)
    have : setI s keep p.2 = setI s q.k p.2 := by
      unfold setI
      split
      · split
        · rw [lastN_all (by rw [List.length_append]; show p.2.kept.length + 1 ≤ keep; omega), lastN_all (by rw [List.length_append]; exact z)]
        · rfl
      · rfl
    rw [this]
def takeC (p : Tb) (ends : Str) (q : Kp) (U : List Int) (c : CS) (x : Stp) (v : Int) : R (CS × Out) :=
  if (gt c.ov x.who).isSome = true then .ok (c, ⟨"void", [], .non, []⟩)
  else match x with
    | .com s =>
      let W := ((gt c.bd s).getD []).filter fun t => (gt c.ov t).isNone
      if W ≠ [] then (R.of (ascC U W)).bind fun L => .ok (c, ⟨"wait", [], .tup L, []⟩)
      else if fits q c = true then .ok (commC c s q.k, ⟨"commit", [], .non, []⟩) else .bad
    | .abo s => (R.of (falC U c s)).bind fun L => .ok (fallC c L, ⟨"abort", [], .non, L⟩)
    | .req k s n => reqC p ends U c k s n v
theorem takeC_ok {p : Tb} {B : Bkm} {q : Kp} {U : List Int} {c c' : CS} {x : Stp} {v : Int} {o : Out} (A : Agr p B.f) (hq : q.is B.keep) (h : takeC p B.ends q U c x v = .ok (c', o)) : takeM B c.S x v = (c'.S, o) := by
  unfold takeC at h
  unfold takeM
  show (if (gt c.ov x.who).isSome = true then _ else _) = _
  split at h
  · cases h; rw [if_pos (by assumption)]
  · rename_i n1
    rw [if_neg n1]
    cases x with
    | com s =>
      dsimp only at h ⊢
      have ew : waitsOf c.S s = ((gt c.bd s).getD []).filter fun t => (gt c.ov t).isNone := rfl
      rw [ew]
      split at h
      · rename_i n2
        obtain ⟨L, z1, z2⟩ := R.bind_ok h
        cases z2
        rw [if_pos n2, ascC_ok (R.of_ok z1)]
      · rename_i n2
        rw [if_neg n2]
        split at h
        · rename_i hf
          cases h
          have : commC c s q.k = commC c s B.keep := by
            unfold commC
            rw [setL_big hq hf]
          rw [this, commC_ok]
        · cases h
    | abo s =>
      dsimp only at h ⊢
      obtain ⟨L, z1, z2⟩ := R.bind_ok h
      cases z2
      rw [falC_ok (R.of_ok z1), fallC_ok]
    | req k s n =>
      dsimp only at h ⊢
      exact reqC_ok A h
/-- every way that a run can go, as far as it asks the book -/
def sym (ends : Str) (q : Kp) (U : List Int) (f : Tb → List Out → CS → Bool) : Nat → Tb → CS → List Out → Nat → List Stp → Bool
  | 0, _, _, _, _, _ => false
  | _ + 1, p, c, os, _, [] => f p os c
  | n + 1, p, c, os, i, x :: xs => match takeC p ends q U c x (1 + (i : Nat)) with
    | .ok r => sym ends q U f n p r.1 (os ++ [r.2]) (i + 1) xs
    | .need e => decide (e ∈ ENT) && (chs e).all fun a => sym ends q U f n ((e, a) :: p) c os i (x :: xs)
    | .bad => false
noncomputable def runM (B : Bkm) : S → Nat → List Stp → S × List Out
  | σ, _, [] => (σ, [])
  | σ, i, x :: xs => let r := takeM B σ x (1 + (i : Nat)); let z := runM B r.1 (i + 1) xs; (z.1, r.2 :: z.2)
theorem sym_ok {B : Bkm} {q : Kp} {U : List Int} {f : Tb → List Out → CS → Bool} (hf : ∀ x ∈ ENT, B.f x ∈ chs x) (hq : q.is B.keep) :
    ∀ (n : Nat) {p : Tb} {c : CS} {os : List Out} {i : Nat} {xs : List Stp}, Agr p B.f → sym B.ends q U f n p c os i xs = true → ∃ p' c', Agr p' B.f ∧ (runM B c.S i xs).1 = c'.S ∧ f p' (os ++ (runM B c.S i xs).2) c' = true
  | 0, _, _, _, _, _, _, h => by cases h
  | n + 1, p, c, os, i, [], A, h => ⟨p, c, A, rfl, by rw [show (runM B c.S i []).2 = [] from rfl, List.append_nil]; exact h⟩
  | n + 1, p, c, os, i, x :: xs, A, h => by
    unfold sym at h
    split at h
    · rename_i r e
      have e1 := takeC_ok (c' := r.1) (o := r.2) A hq e
      obtain ⟨p', c', a1, a2, a3⟩ := sym_ok hf hq n A h
      refine ⟨p', c', a1, ?_, ?_⟩
      · show (runM B (takeM B c.S x (1 + (i : Nat))).1 (i + 1) xs).1 = _
        rw [e1]; exact a2
      · show f p' (os ++ (takeM B c.S x (1 + (i : Nat))).2 :: (runM B (takeM B c.S x (1 + (i : Nat))).1 (i + 1) xs).2) c' = true
        rw [e1]
        rw [List.append_assoc] at a3
        exact a3
    · rename_i e _
      rw [Bool.and_eq_true, List.all_eq_true] at h
      have he := of_decide_eq_true h.1
      exact sym_ok hf hq n (fun e' a z => by
        rw [gt_cons] at z
        split at z
        · rename_i w; cases z; rw [← w]
        · exact A e' a z) (h.2 _ (hf e he))
    · cases h
end MIR

namespace K11
open PySem L2 SI CM BK OWN MIR StX TX TL
section
variable {w : World} {K : PySem.W.Frag} {mg : Str → Option Value} {base : Heap} (T : Txt w K mg)
theorem run_out (B : Bkm) (xs : List Stp) : ∀ (ys : List Stp) (i : Nat), xs.drop i = ys → (runM B (stN B xs i) i ys).2 = (List.range' i ys.length).map (outN B xs) ∧ (runM B (stN B xs i) i ys).1 = stN B xs (i + ys.length)
  | [], i, h => ⟨rfl, rfl⟩
  | y :: ys, i, h => by
    have hy : xs[i]? = some y := by
      have z := congrArg List.head? h
      rw [List.head?_drop] at z
      exact z
    have ht : xs.drop (i + 1) = ys := by
      have z := congrArg List.tail h
      rw [List.tail_drop] at z
      exact z
    have e1 : (takeM B (stN B xs i) y (1 + (i : Nat))).1 = stN B xs (i + 1) := (stN_at hy).symm
    have e2 : (takeM B (stN B xs i) y (1 + (i : Nat))).2 = outN B xs i := by unfold outN; rw [hy]
    obtain ⟨h1, h2⟩ := run_out B xs ys (i + 1) ht
    refine ⟨?_, ?_⟩
    · show (takeM B (stN B xs i) y (1 + (i : Nat))).2 :: (runM B (takeM B (stN B xs i) y (1 + (i : Nat))).1 (i + 1) ys).2 = _
      rw [e1, e2, h1]
      rfl
    · show (runM B (takeM B (stN B xs i) y (1 + (i : Nat))).1 (i + 1) ys).1 = _
      rw [e1, h2, List.length_cons, Nat.add_assoc, Nat.add_comm 1]
noncomputable def outsN (B : Bkm) (xs : List Stp) : List Out := (List.range' 0 xs.length).map (outN B xs)
theorem outsN_at {B : Bkm} {xs : List Stp} {i : Nat} (h : i < xs.length) : (outsN B xs)[i]? = some (outN B xs i) := by
  unfold outsN
  rw [List.getElem?_map, List.getElem?_range' h]
  simp
def wR (s : Int) : Stp := .req "read" s "x"
def wW (s : Int) : Stp := .req "write" s "x"
def wayL : List (List Stp) := [[wW 2, .com 2, wR 1], [wW 2, .com 2, wW 3, wR 1], [wW 2, wR 1], [wW 1, wR 2], [wW 2, .com 2, wW 1], [wW 2, .com 2, wW 3, wW 1], [wW 2, wW 1], [wW 1, wW 2],
  [wR 2, wW 1], [wR 2, wW 1, wW 1], [wR 2, wW 2, .com 2, wW 1], [wR 2, wW 2, .com 2, wW 3, wW 1], [wR 2, wW 2, wW 1], [wR 3, wW 1, wW 2]]
def askL : List Int := [1, 1, 1, 2, 1, 1, 1, 2, 1, 1, 1, 1, 1, 2]
def hldL : List Int := [0, 3, 2, 1, 0, 3, 2, 1, 0, 1, 0, 3, 2, 1]
def lstL : List Int := [1, 1, 0, 0]
def valL : List Int := [0, 3, 1, 1]
def nmE (i : Nat) : Str := ENT.getD i ""
def aftE (i : Nat) : Str := if i = 5 then "write late" else if i = 11 then "write late passed" else "write free passed"
/-- the outcome of the last step of the way of an entry, a its answer (abort, if there is nothing old) -/
def dueA (i : Nat) (a b : Str) : Out :=
  if a = "last" then ⟨"read", [nmE i], .int (lstL.getD (i % 4) 0), []⟩
  else if a = "old" then ⟨"read", [nmE i], .int 0, []⟩
  else if a = "open" then ⟨"read", [nmE i], .int (valL.getD (i % 4) 0), []⟩
  else if a = "wait" then ⟨"wait", [nmE i], .tup [hldL.getD i 0], []⟩
  else if a ≠ "wound" then ⟨a, [nmE i], .non, if a = "abort" then [askL.getD i 0] else []⟩
  else if i = 5 ∨ i = 11 then (if b = "abort" then ⟨"abort", [nmE i, aftE i], .non, [askL.getD i 0, hldL.getD i 0]⟩ else ⟨"skip", [nmE i, aftE i], .non, [hldL.getD i 0]⟩)
  else if i = 12 ∨ i = 13 then (if b = "abort" then ⟨"abort", [nmE i, aftE i], .non, [1, 2]⟩ else ⟨"put", [nmE i, aftE i], .non, [hldL.getD i 0]⟩)
  else ⟨"put", [nmE i], .non, [hldL.getD i 0]⟩
def oldA (a : Str) (k1 : Bool) : Str := if a = "old" ∧ k1 = true then "abort" else a
def dueO (i : Nat) (a b : Str) (k1 : Bool) : Out := dueA i (oldA a k1) b
def ovB : OV → OV → Bool
  | .non, .non => true
  | .int a, .int b => decide (a = b)
  | .tup a, .tup b => decide (a = b)
  | _, _ => false
theorem ovB_eq : ∀ {a b : OV}, ovB a b = true → a = b
  | .non, .non, _ => rfl
  | .int a, .int b, h => by rw [of_decide_eq_true h]
  | .tup a, .tup b, h => by rw [of_decide_eq_true h]
  | .non, .int _, h => by cases h
  | .non, .tup _, h => by cases h
  | .int _, .non, h => by cases h
  | .int _, .tup _, h => by cases h
  | .tup _, .non, h => by cases h
  | .tup _, .int _, h => by cases h
def outB (a b : Out) : Bool := decide (a.word = b.word) && (decide (a.met = b.met) && (ovB a.val b.val && decide (a.fallen = b.fallen)))
theorem outB_eq {a b : Out} (h : outB a b = true) : a = b := by
  unfold outB at h
  rw [Bool.and_eq_true, Bool.and_eq_true, Bool.and_eq_true] at h
  obtain ⟨h1, h2, h3, h4⟩ := h
  cases a; cases b
  simp only [decide_eq_true_eq] at h1 h2 h4
  have h3 := ovB_eq h3
  simp only at h1 h2 h3 h4
  rw [h1, h2, h3, h4]
def passW (w : Str) : Bool := decide (w ∈ (["read", "put", "commit"] : List Str))
def okOs (o : Out) (os : List Out) : Bool := (os.dropLast.all fun x => passW x.word) && (match os.getLast? with | some x => outB x o | none => false)
def chkO (i : Nat) (k1 : Bool) (tb : Tb) (os : List Out) (_ : CS) : Bool := match gt tb (nmE i) with
  | none => false
  | some a => if a = "wound" ∧ i ∈ [5, 11, 12, 13] then (match gt tb (aftE i) with | none => false | some b => okOs (dueO i a b k1) os) else okOs (dueO i a "" k1) os
/-- the answer that stands from the start -/
def tb0 (i : Nat) : Tb := if i = 8 ∨ i = 12 then [] else [("write free passed", "put")]
def symW (i : Nat) : Bool := (["now", "after"] : List Str).all fun r => sym r ⟨1, false⟩ [1, 2, 3] (chkO i true) 30 (tb0 i) c0 [] 0 (wayL.getD i []) && sym r ⟨2, true⟩ [1, 2, 3] (chkO i false) 30 (tb0 i) c0 [] 0 (wayL.getD i [])
theorem all_ways : ((List.range 14).all symW) = true := by decide +kernel
theorem okOs_at {o : Out} {B : Bkm} {xs : List Stp} (hx : xs ≠ []) (h : okOs o (outsN B xs) = true) : (∀ j, j + 1 < xs.length → passW (outN B xs j).word = true) ∧ outN B xs (xs.length - 1) = o := by
  unfold okOs at h
  rw [Bool.and_eq_true, List.all_eq_true] at h
  have hl : (outsN B xs).length = xs.length := by unfold outsN; rw [List.length_map, List.length_range']
  have l0 : 0 < xs.length := List.length_pos_iff.mpr hx
  refine ⟨fun j hj => ?_, ?_⟩
  · refine h.1 (outN B xs j) (List.mem_of_getElem? (i := j) ?_)
    rw [List.getElem?_dropLast, hl, if_pos (by omega)]
    exact outsN_at (by omega)
  · have h2 := h.2
    rw [List.getLast?_eq_getElem?, hl, outsN_at (by omega)] at h2
    exact outB_eq h2
theorem way_out {B : Bkm} (hf : ∀ x ∈ ENT, B.f x ∈ chs x) (he : isEnds (.str B.ends)) (hk : 1 ≤ B.keep) {i : Nat} (hi : i < 14) (hp : i ≠ 8 → i ≠ 12 → B.f "write free passed" = "put") :
    (∀ j, j + 1 < (wayL.getD i []).length → passW (outN B (wayL.getD i []) j).word = true) ∧ outN B (wayL.getD i []) ((wayL.getD i []).length - 1) = dueO i (B.f (nmE i)) (B.f (aftE i)) (decide (B.keep = 1)) := by
  have h := all_ways
  rw [List.all_eq_true] at h
  have h := h i (List.mem_range.mpr hi)
  unfold symW at h
  rw [List.all_eq_true] at h
  have he' : B.ends ∈ ([("now" : Str), "after"] : List Str) := by
    rcases he with z | z
    · rw [V.str.inj z]; simp
    · rw [V.str.inj z]; simp
  have h := h B.ends he'
  rw [Bool.and_eq_true] at h
  have nonempty : ∀ i ∈ List.range 14, wayL.getD i [] ≠ [] := by decide
  have hx := nonempty i (List.mem_range.mpr hi)
  generalize exs : wayL.getD i [] = xs at h hx ⊢
  obtain ⟨r1, r2⟩ := run_out B xs xs 0 rfl
  have e0 : c0.S = stN B xs 0 := rfl
  have ag : Agr (tb0 i) B.f := fun e a z => by
    unfold tb0 at z
    by_cases c : i = 8 ∨ i = 12
    · rw [if_pos c] at z; cases z
    · rw [if_neg c, gt_cons] at z
      split at z
      · rename_i w; cases z; rw [← w]; exact hp (fun q => c (.inl q)) fun q => c (.inr q)
      · cases z
  have fin : ∀ k1 : Bool, (∃ p c, Agr p B.f ∧ chkO i k1 p (outsN B xs) c = true) → okOs (dueO i (B.f (nmE i)) (B.f (aftE i)) k1) (outsN B xs) = true := by
    rintro k1 ⟨p, c, a1, a2⟩
    unfold chkO at a2
    split at a2
    · cases a2
    · rename_i a ea
      have ea' := a1 _ _ ea
      split at a2
      · split at a2
        · cases a2
        · rename_i b eb
          rw [ea', a1 _ _ eb]; exact a2
      · rename_i cn
        rw [ea']
        have e : dueO i a (B.f (aftE i)) k1 = dueO i a "" k1 := by
          have z : a = "wound" → ¬ (i = 5 ∨ i = 11) ∧ ¬ (i = 12 ∨ i = 13) := fun w => ⟨fun q => cn ⟨w, by rcases q with rfl | rfl <;> simp⟩, fun q => cn ⟨w, by rcases q with rfl | rfl <;> simp⟩⟩
          unfold dueO dueA
          by_cases w : a = "wound"
          · obtain ⟨z1, z2⟩ := z w
            simp only [if_neg z1, if_neg z2]
          · have w2 : oldA a k1 ≠ "wound" := by
              unfold oldA
              split
              · decide +kernel
              · exact w
            simp only [if_pos w2]
        rw [e]; exact a2
  have run : ∀ (q : Kp) (k1 : Bool), q.is B.keep → sym B.ends q [1, 2, 3] (chkO i k1) 30 (tb0 i) c0 [] 0 xs = true → ∃ p c, Agr p B.f ∧ chkO i k1 p (outsN B xs) c = true := by
    intro q k1 hq hs
    obtain ⟨p, c, a1, a2, a3⟩ := sym_ok hf hq 30 ag hs
    rw [e0] at a3
    rw [r1, List.nil_append] at a3
    exact ⟨p, c, a1, a3⟩
  by_cases c1 : B.keep = 1
  · rw [decide_eq_true c1]
    exact okOs_at hx (fin true (run ⟨1, false⟩ true (.inl c1) h.1))
  · rw [decide_eq_false c1]
    exact okOs_at hx (fin false (run ⟨2, true⟩ false (.inr ⟨rfl, by show 2 ≤ B.keep; omega⟩) h.2))
end
end K11

namespace K11
open PySem L2 SI CM BK OWN MIR StX TX TL
section
variable {w : World} {K : PySem.W.Frag} {mg : Str → Option Value} {base : Heap} (T : Txt w K mg)
def txL : List Str := ["w2 c2 r1", "w2 c2 w3 r1", "w2 r1", "w1 r2", "w2 c2 w1", "w2 c2 w3 w1", "w2 w1", "w1 w2", "r2 w1", "r2 w1 w1", "r2 w2 c2 w1", "r2 w2 c2 w3 w1", "r2 w2 w1", "r3 w1 w2"]
def wdL : List (List Str) := [["w2", "c2", "r1"], ["w2", "c2", "w3", "r1"], ["w2", "r1"], ["w1", "r2"], ["w2", "c2", "w1"], ["w2", "c2", "w3", "w1"], ["w2", "w1"], ["w1", "w2"], ["r2", "w1"], ["r2", "w1", "w1"], ["r2", "w2", "c2", "w1"], ["r2", "w2", "c2", "w3", "w1"], ["r2", "w2", "w1"], ["r3", "w1", "w2"]]
def stB (x : Stp) (c : Nat) : Bool := match x with
  | .req k _ n => decide (n = "x") && ((decide (k = "read") && decide (c = 114)) || (decide (k = "write") && decide (c = 119)))
  | .com _ => decide (c = 99)
  | .abo _ => false
def wdB (wd : Str) (x : Stp) : Bool := decide (PySem.intText? (cutS wd (some 1) none) = some x.who) && (match atI wd.cps.toList 0 with | some c => stB x c | none => false) && decide (wd.length ≤ 600) && decide ((cutS wd (some 1) none).length ≤ 600) && decide (1 ≤ x.who) && decide (x.who ≤ 3)
def wyB (i : Nat) : Bool := decide (Txt.split (txL.getD i "") " " = wdL.getD i []) && decide ((wdL.getD i []).length = (wayL.getD i []).length) && ((wdL.getD i []).zip (wayL.getD i [])).all (fun p => wdB p.1 p.2) && decide ((wdL.getD i []).length ≤ 5) && decide ((txL.getD i "").length ≤ 600)
theorem wy_ok : (List.range 14).all wyB = true := by decide +kernel
theorem wd_at {i j : Nat} (hi : i < 14) {wd : Str} (h : (wdL.getD i [])[j]? = some wd) : ∃ x, (wayL.getD i [])[j]? = some x ∧ wdB wd x = true := by
  have h0 := List.all_eq_true.mp wy_ok i (List.mem_range.mpr hi)
  unfold wyB at h0
  simp only [Bool.and_eq_true, decide_eq_true_eq] at h0
  obtain ⟨⟨⟨⟨_, h2⟩, h3⟩, _⟩, _⟩ := h0
  have hj : j < (wayL.getD i []).length := by rw [← h2]; exact (List.getElem?_eq_some_iff.mp h).1
  refine ⟨(wayL.getD i [])[j], List.getElem?_eq_getElem hj, ?_⟩
  rw [List.all_eq_true] at h3
  refine h3 (wd, (wayL.getD i [])[j]) (List.mem_of_getElem? (i := j) ?_)
  rw [List.getElem?_zip_eq_some]
  exact ⟨h, List.getElem?_eq_getElem hj⟩
theorem wy_at {i : Nat} (hi : i < 14) : Txt.split (txL.getD i "") " " = wdL.getD i [] ∧ (wdL.getD i []).length = (wayL.getD i []).length ∧ (wdL.getD i []).length ≤ 5 ∧ (txL.getD i "").length ≤ 600 := by
  have h0 := List.all_eq_true.mp wy_ok i (List.mem_range.mpr hi)
  unfold wyB at h0
  simp only [Bool.and_eq_true, decide_eq_true_eq] at h0
  obtain ⟨⟨⟨⟨h1, h2⟩, _⟩, h4⟩, h5⟩ := h0
  exact ⟨h1, h2, h4, h5⟩
def scX (s : Int) (nm : Str) : Stp → Stp
  | .req k t _ => .req k (t * s) nm
  | .com t => .com (t * s)
  | .abo t => .abo (t * s)
theorem stp_T {H H' : Hp} (s : SameT H H') {q : Addr} : ∀ {x : Stp}, StpAt H q x → StpAt H' q x
  | .req _ _ _, h => s _ _ trivial h
  | .com _, h => s _ _ trivial h
  | .abo _, h => s _ _ trivial h
theorem run_T {H H' : Hp} (s : SameT H H') {vs : List V} {xs : List Stp} (h : RunAt H vs xs) : RunAt H' vs xs := F2.mono (fun a b ⟨q, e, z⟩ => ⟨q, e, stp_T s z⟩) h
def spLWays : Sp := fun vs H Q _ => vs = [] ∧ ∀ (H' : Hp) (p : Addr), Same H H' → H p = none → H' p = some (.lst (txL.map V.str)) → Q (.ref p) H'
theorem ok_lways : FnOk PP w K mg base CX0 1 T.f_law_ways T.d_law_ways [] spLWays := by
  refine T.F_law_ways.ok sc_law_ways (fun vs H Q E h => ?_) (fun cdv A outer s H vs Q E hr h => ?_)
  · obtain ⟨rfl, _⟩ := h
    rfl
  · obtain ⟨rfl, kk⟩ := h
    refine ⟨_, pss_cons (ps_set (i := 0) sc_law_ways.nd rfl (.inl rfl) (pe_lst (pa_cons pe_str (pa_cons pe_str (pa_cons pe_str (pa_cons pe_str (pa_cons pe_str (pa_cons pe_str (pa_cons pe_str (pa_cons pe_str pa_nil))))))))))
 (pss_cons (ps_set (i := 0) sc_law_ways.nd rfl (.inl rfl) (pe_op op_cat (pv 0) (pe_lst (pa_cons pe_str (pa_cons pe_str (pa_cons pe_str (pa_cons pe_str (pa_cons pe_str (pa_cons pe_str pa_nil)))))))))
 (pss_one (ps_ret (pv 0)))), ?_⟩
    have l8 : 8 ≤ sizeLine := by decide
    have l6 : 6 ≤ sizeLine := by decide
    refine ⟨l8, fun A nA => ?_⟩
    have y1 := same_new (o := .lst [.str "w2 c2 r1", .str "w2 c2 w3 r1", .str "w2 r1", .str "w1 r2", .str "w2 c2 w1", .str "w2 c2 w3 w1", .str "w2 w1", .str "w1 w2"]) (Same.refl H) nA
    have h1 : (upd H A (.lst [.str "w2 c2 r1", .str "w2 c2 w3 r1", .str "w2 r1", .str "w1 r2", .str "w2 c2 w1", .str "w2 c2 w3 w1", .str "w2 w1", .str "w1 w2"])) A = _ := upd_same
    generalize upd H A (.lst [.str "w2 c2 r1", .str "w2 c2 w3 r1", .str "w2 r1", .str "w1 r2", .str "w2 c2 w1", .str "w2 c2 w3 w1", .str "w2 w1", .str "w1 w2"]) = H1 at y1 h1 ⊢
    refine ⟨_, rfl, l6, fun B nB => ?_⟩
    have y2 := same_new (o := .lst [.str "r2 w1", .str "r2 w1 w1", .str "r2 w2 c2 w1", .str "r2 w2 c2 w3 w1", .str "r2 w2 w1", .str "r3 w1 w2"]) (Same.refl H1) nB
    have h2 : (upd H1 B (.lst [.str "r2 w1", .str "r2 w1 w1", .str "r2 w2 c2 w1", .str "r2 w2 c2 w3 w1", .str "r2 w2 w1", .str "r3 w1 w2"])) B = _ := upd_same
    generalize upd H1 B (.lst [.str "r2 w1", .str "r2 w1 w1", .str "r2 w2 c2 w1", .str "r2 w2 c2 w3 w1", .str "r2 w2 w1", .str "r3 w1 w2"]) = H2 at y2 h2 ⊢
    refine ⟨A, B, _, _, rfl, rfl, y2 _ _ h1, h2, (show 8 + 6 ≤ sizeLine by decide), fun P nP => ?_⟩
    exact ⟨_, rfl, kk _ P (same_new (y1.trans y2) nP) ((y1.trans y2).free nP) upd_same⟩
def spLScaled : Sp := fun vs H Q _ => ∃ (i : Nat) (s : Int) (nm : Str), vs = [.str (txL.getD i ""), .int s, .str nm] ∧ i < 14 ∧ 1 ≤ s ∧
  ∀ (H' : Hp) (q : Addr) (ws : List V), Same H H' → H q = none → H' q = some (.lst ws) → RunAt H' ws ((wayL.getD i []).map (scX s nm)) → Q (.ref q) H'
theorem ok_lscaled : FnOk PP w K mg base CX0 1 T.f_law_scaled T.d_law_scaled ["_law_text", "_law_scale", "_law_name"] spLScaled := by
  refine T.F_law_scaled.ok sc_law_scaled (fun vs H Q E h => ?_) (fun cdv A outer s0 H vs Q E hr h => ?_)
  · obtain ⟨i, s, nm, rfl, _⟩ := h
    rfl
  · obtain ⟨i, s, nm, rfl, hi, hs, kk⟩ := h
    refine ⟨_, pss_cons (ps_set (i := 3) sc_law_scaled.nd rfl (.inl rfl) (pe_lst pa_nil))
 (C8.pss_cut (ps_for PassesOwn.never rfl (pi_list (pe_split (pv 0) pe_str)) (pg_name (i := 4) sc_law_scaled.nd rfl (.inl rfl))
 (pss_cons (ps_set (i := 5) sc_law_scaled.nd rfl (.inl rfl) (pe_op op_mul (pe_callTy call_int_str (by rfl) T.n_int (by decide +kernel) (pa_cons (pe_slice sl_str (pv 4) (po_some pe_int) po_none) pa_nil)) (pv 1)))
 (pss_one (ps_if (pt_cmpR op_eq (pe_ix ix_str (pv 4) pe_int (fun _ _ => rfl)) pe_str (nomark _))
 (pss_one (ps_expr (pe_bm PySem.F.plainAttrs_list PySem.F.slot_list_append PySem.F.type_list_append mt_append (pv 3) (pa_cons (pe_tup (pa_cons pe_str (pa_cons (pv 5) (pa_cons (pv 2) pa_nil)))) pa_nil))))
 (pss_one (ps_if (pt_cmpR op_eq (pe_ix ix_str (pv 4) pe_int (fun _ _ => rfl)) pe_str (nomark _))
 (pss_one (ps_expr (pe_bm PySem.F.plainAttrs_list PySem.F.slot_list_append PySem.F.type_list_append mt_append (pv 3) (pa_cons (pe_tup (pa_cons pe_str (pa_cons (pv 5) (pa_cons (pv 2) pa_nil)))) pa_nil))))
 (pss_one (ps_expr (pe_bm PySem.F.plainAttrs_list PySem.F.slot_list_append PySem.F.type_list_append mt_append (pv 3) (pa_cons (pe_tup (pa_cons pe_str (pa_cons (pv 5) pa_nil))) pa_nil))))))))))
 (pss_one (ps_ret (pv 3)))), ?_⟩
    have two : 2 ≤ sizeLine := by decide
    have three : 3 ≤ sizeLine := by decide
    obtain ⟨w1, w2, w3, w4⟩ := wy_at hi
    refine ⟨Nat.zero_le _, fun L nL => ?_⟩
    have hL1 : (upd H L (.lst [])) L = some (.lst []) := upd_same
    have s1 : Same H (upd H L (.lst [])) := same_new (Same.refl H) nL
    generalize upd H L (.lst []) = H1 at hL1 s1 ⊢
    refine ⟨fun τ H' => ∃ (ws : List V) (v4 v5 : Option V), τ = [some (.str (txL.getD i "")), some (.int s), some (.str nm), some (.ref L), v4, v5] ∧ H' L = some (.lst ws) ∧ RunAt H' ws ((wayL.getD i []).map (scX s nm)) ∧ Same H H', ?_, ?_⟩
    · refine ⟨_, rfl, ⟨_, rfl⟩, _, _, rfl, rfl, (by decide), Nat.le_of_lt (small1000 (by omega)), fun W nW => ?_⟩
      rw [w1]
      have y := same_new (o := .lst ((wdL.getD i []).map V.str)) (Same.refl H1) nW
      have hW : (upd H1 W (.lst ((wdL.getD i []).map V.str))) W = some (.lst ((wdL.getD i []).map V.str)) := upd_same
      have WL : W ≠ L := fun z => by rw [z, hL1] at nW; cases nW
      generalize upd H1 W (.lst ((wdL.getD i []).map V.str)) = H2 at y hW ⊢
      refine ⟨W, rfl, ⟨_, SqL.of hW⟩, ?_⟩
      refine for_list (K := K) (a := W) (xs := (wdL.getD i []).map V.str) (fun j τ H' => ∃ (ws : List V) (v4 v5 : Option V), τ = [some (.str (txL.getD i "")), some (.int s), some (.str nm), some (.ref L), v4, v5] ∧ H' L = some (.lst ws) ∧ RunAt H' ws (((wayL.getD i []).take j).map (scX s nm)) ∧ Same H H' ∧ H' W = some (.lst ((wdL.getD i []).map V.str)))
        ⟨[], none, none, rfl, y _ _ hL1, .nil, s1.trans y, hW⟩ (fun j τ H' _ ⟨_, _, _, _, _, _, _, z⟩ => SqL.of z) ?_ (fun τ H' ⟨ws, v4, v5, e, h1, h2, h3, _⟩ => ⟨ws, v4, v5, e, h1, by rw [List.length_map, w2, List.take_length] at h2; exact h2, h3⟩)
      rintro j x τ H3 hx ⟨ws, v4, v5, rfl, hL3, R3, s3, hW3⟩
      rw [List.getElem?_map] at hx
      cases hwq : (wdL.getD i [])[j]? with
      | none => rw [hwq] at hx; cases hx
      | some wd =>
      rw [hwq] at hx
      cases hx
      obtain ⟨x, hxx, hb⟩ := wd_at hi hwq
      have hj : j < (wayL.getD i []).length := (List.getElem?_eq_some_iff.mp hxx).1
      have et : ((wayL.getD i []).take (j + 1)).map (scX s nm) = ((wayL.getD i []).take j).map (scX s nm) ++ [scX s nm x] := by rw [List.take_add_one, hxx, List.map_append]; rfl
      unfold wdB at hb
      simp only [Bool.and_eq_true, decide_eq_true_eq] at hb
      obtain ⟨⟨⟨⟨⟨b1, b2⟩, b3⟩, b4⟩, b5⟩, b6⟩ := hb
      have lw := F2.len R3
      rw [List.length_map, List.length_take] at lw
      have sm : ws.length < sizeLine := small1000 (by omega)
      cases hc : atI wd.cps.toList 0 with
      | none => rw [hc] at b2; cases b2
      | some c =>
      rw [hc] at b2
      have b2 : stB x c = true := b2
      have lwd : wd.length ≤ sizeLine := Nat.le_of_lt (small1000 (by omega))
      have fin : ∀ (P : Addr) (tv : List V), H3 P = none → StpAt (upd H3 P (.tup tv)) P (scX s nm x) →
          RunAt (upd (upd H3 P (.tup tv)) L (.lst (ws ++ [.ref P]))) (ws ++ [.ref P]) (((wayL.getD i []).take (j + 1)).map (scX s nm)) ∧ Same H (upd (upd H3 P (.tup tv)) L (.lst (ws ++ [.ref P]))) ∧ (upd (upd H3 P (.tup tv)) L (.lst (ws ++ [.ref P]))) W = some (.lst ((wdL.getD i []).map V.str)) := by
        intro P tv nP hst
        have y := same_new (o := .tup tv) (Same.refl H3) nP
        have hL4 := y _ _ hL3
        generalize upd H3 P (.tup tv) = H4 at y hst hL4 ⊢
        have T : SameT H4 (upd H4 L (.lst (ws ++ [.ref P]))) := SameT.chg hL4 (fun z => z)
        refine ⟨by rw [et]; exact F2.snoc (run_T T (R3.same y)) ⟨P, rfl, stp_T T hst⟩, fun c' o z => ?_, ?_⟩
        · rw [upd_ne (ne_of_none z nL)]; exact y _ _ (s3 _ _ z)
        · rw [upd_ne WL]; exact y _ _ hW3
      have er : ((⟨#[114]⟩ : Str) = "r") ∧ ((⟨#[119]⟩ : Str) ≠ "r") ∧ ((⟨#[119]⟩ : Str) = "w") ∧ ((⟨#[99]⟩ : Str) ≠ "r") ∧ ((⟨#[99]⟩ : Str) ≠ "w") := by decide +kernel
      obtain ⟨er1, er2, er3, er4, er5⟩ := er
      refine ⟨_, rfl, _, rfl, wd, rfl, lwd, _, x.who, rfl, b1, by omega, _, rfl, _, _, rfl, rfl, .inl ⟨by omega, by omega⟩, ?_⟩
      refine ⟨_, rfl, wd, _, c, rfl, rfl, lwd, hc, rfl, _, rfl, ?_⟩
      rw [ds]
      cases x with
      | abo t => cases b2
      | com t =>
        have c99 : c = 99 := of_decide_eq_true b2
        subst c99
        rw [decide_eq_false er4]
        refine iteF ⟨_, rfl, wd, _, 99, rfl, rfl, lwd, hc, rfl, _, rfl, ?_⟩
        rw [ds, decide_eq_false er5]
        refine iteF ⟨_, rfl, .inl ⟨rfl, _, SqL.of hL3⟩, _, rfl, two, fun P nP => ⟨L, _, _, rfl, rfl, same_new (Same.refl H3) nP _ _ hL3, sm, ?_⟩⟩
        obtain ⟨g1, g2, g3⟩ := fin P _ nP upd_same
        exact ⟨_, _, _, rfl, upd_same, g1, g2, g3⟩
      | req kd t n =>
        have b2 : (decide (n = "x") && ((decide (kd = "read") && decide (c = 114)) || (decide (kd = "write") && decide (c = 119)))) = true := b2
        simp only [Bool.and_eq_true, Bool.or_eq_true, decide_eq_true_eq] at b2
        obtain ⟨_, ⟨rfl, rfl⟩ | ⟨rfl, rfl⟩⟩ := b2
        · rw [decide_eq_true er1]
          refine iteT ⟨_, rfl, .inl ⟨rfl, _, SqL.of hL3⟩, _, rfl, _, rfl, three, fun P nP => ⟨L, _, _, rfl, rfl, same_new (Same.refl H3) nP _ _ hL3, sm, ?_⟩⟩
          obtain ⟨g1, g2, g3⟩ := fin P _ nP upd_same
          exact ⟨_, _, _, rfl, upd_same, g1, g2, g3⟩
        · rw [decide_eq_false er2]
          refine iteF ⟨_, rfl, wd, _, 119, rfl, rfl, lwd, hc, rfl, _, rfl, ?_⟩
          rw [ds, decide_eq_true er3]
          refine iteT ⟨_, rfl, .inl ⟨rfl, _, SqL.of hL3⟩, _, rfl, _, rfl, three, fun P nP => ⟨L, _, _, rfl, rfl, same_new (Same.refl H3) nP _ _ hL3, sm, ?_⟩⟩
          obtain ⟨g1, g2, g3⟩ := fin P _ nP upd_same
          exact ⟨_, _, _, rfl, upd_same, g1, g2, g3⟩
    rintro τ H2 ⟨ws, v4, v5, rfl, hL2, R2, s2⟩
    exact ⟨_, rfl, kk _ L ws s2 nL hL2 R2⟩
end
end K11

namespace K11
open PySem L2 SI CM BK OWN MIR StX TX TL
section
variable {w : World} {K : PySem.W.Frag} {mg : Str → Option Value} {base : Heap} (T : Txt w K mg)
def scOV (s : Int) : OV → OV
  | .tup l => .tup (l.map fun t => s * t)
  | o => o
def scO (s : Int) (o : Out) : Out := ⟨o.word, o.met, scOV s o.val, o.fallen.map fun t => s * t⟩
theorem out_new {H : Hp} {P m f : Addr} {v : V} {o : Out} (nP : H P = none) (hm : H m = some (.tup (o.met.map V.str))) (hv : OvAt H v o.val) (hf : H f = some (.tup (o.fallen.map V.int))) : OutAt (upd H P (.tup [.str o.word, .ref m, v, .ref f])) P o :=
  ⟨m, v, f, upd_same, same_new (Same.refl H) nP _ _ hm, hv.same (same_new (Same.refl H) nP), same_new (Same.refl H) nP _ _ hf⟩
theorem nm_at {i : Nat} (h : i < 14) : atI (ENT.map V.str) (i : Int) = some (.str (nmE i)) := by
  have hl : i < ENT.length := by rw [ent_len]; exact h
  refine atI_nat ?_
  rw [List.getElem?_map, List.getElem?_eq_getElem hl]
  unfold nmE
  rw [List.getD_eq_getElem?_getD, List.getElem?_eq_getElem hl]
  rfl
theorem li_at {L : List Int} {i : Nat} (h : i < L.length) : atI (L.map V.int) (i : Int) = some (.int (L.getD i 0)) := by
  refine atI_nat ?_
  rw [List.getElem?_map, List.getElem?_eq_getElem h, List.getD_eq_getElem?_getD, List.getElem?_eq_getElem h]
  rfl
theorem two_srt {ns : List Int} {x y : Int} (p : ns.Perm [x, y]) (s : ns.Pairwise (· ≤ ·)) (h : x < y) : ns = [x, y] := by
  have n : ([x, y] : List Int).Nodup := by simp; omega
  obtain ⟨a, b⟩ := perm_asc p s n
  refine sorted_ext a ?_ b
  simp [List.pairwise_cons]
  exact h
theorem wound_at : ∀ i ∈ List.range 14, ("wound" : Str) ∈ chs (nmE i) → i = 5 ∨ i = 6 ∨ i = 7 ∨ i = 11 ∨ i = 12 ∨ i = 13 := by decide +kernel
theorem ask_bd : ∀ i ∈ List.range 14, (0 ≤ askL.getD i 0 ∧ askL.getD i 0 ≤ 3) ∧ (0 ≤ hldL.getD i 0 ∧ hldL.getD i 0 ≤ 3) := by decide
def spLDue11 : Sp := fun vs H Q _ => ∃ (i : Nat) (t : Addr) (k s : Int) (kv : List (Key × V)) (a b : Str), vs = [.int (i : Int), .ref t, .int k, .int s] ∧ i < 14 ∧ H t = some (.dK kv) ∧ valV kv (Sum.inr (nmE i)) = some (.str a) ∧ valV kv (Sum.inr (aftE i)) = some (.str b) ∧ a ∈ chs (nmE i) ∧ 1 ≤ s ∧
  ∀ (H' : Hp) (p : Addr), Same H H' → H p = none → OutAt H' p (scO s (dueO i a b (decide (k = 1)))) → Q (.ref p) H'
theorem ok_ldue : FnOk PP w K mg base CX0 2 T.f_law_due T.d_law_due ["_law_at", "_law_table", "_law_kept", "_law_scale"] spLDue11 := by
  refine T.F_law_due.ok sc_law_due (fun vs H Q E h => ?_) (fun cdv A outer s0 H vs Q E hr h => ?_)
  · obtain ⟨i, t, k, s, kv, a, b, rfl, _⟩ := h
    rfl
  · obtain ⟨i, t, k, s, kv, a, b, rfl, hi, ht, hva, hvb, ha, hs, kk⟩ := h
    refine ⟨_, pss_cons (ps_set (i := 4) sc_law_due.nd rfl (.inl rfl) (pe_ix ix_list (pe_call0 (ok_entries T) (hr.mono (by decide)) (by rfl) T.g_law_entries T.F_law_entries.kp (b_law_entries T) .nil pass0) (pv 0) (fun _ _ => rfl)))
 (pss_cons (ps_set (i := 5) sc_law_due.nd rfl (.inl rfl) (pe_op op_mul (pv 3) (pe_ix ix_list (pe_lst (pa_cons pe_int (pa_cons pe_int (pa_cons pe_int (pa_cons pe_int (pa_cons pe_int (pa_cons pe_int (pa_cons pe_int (pa_cons pe_int (pa_cons pe_int (pa_cons pe_int (pa_cons pe_int (pa_cons pe_int (pa_cons pe_int (pa_cons pe_int pa_nil))))))))))))))) (pv 0) (fun _ _ => rfl))))
 (pss_cons (ps_set (i := 6) sc_law_due.nd rfl (.inl rfl) (pe_op op_mul (pv 3) (pe_ix ix_list (pe_lst (pa_cons pe_int (pa_cons pe_int (pa_cons pe_int (pa_cons pe_int (pa_cons pe_int (pa_cons pe_int (pa_cons pe_int (pa_cons pe_int (pa_cons pe_int (pa_cons pe_int (pa_cons pe_int (pa_cons pe_int (pa_cons pe_int (pa_cons pe_int pa_nil))))))))))))))) (pv 0) (fun _ _ => rfl))))
 (pss_cons (ps_set (i := 7) sc_law_due.nd rfl (.inl rfl) (pe_ix ix_list (pe_lst (pa_cons pe_int (pa_cons pe_int (pa_cons pe_int (pa_cons pe_int pa_nil))))) (pe_op op_mod (pv 0) pe_int) (fun _ _ => rfl)))
 (pss_cons (ps_set (i := 8) sc_law_due.nd rfl (.inl rfl) (pe_ix ix_list (pe_lst (pa_cons pe_int (pa_cons pe_int (pa_cons pe_int (pa_cons pe_int pa_nil))))) (pe_op op_mod (pv 0) pe_int) (fun _ _ => rfl)))
 (pss_cons (ps_set (i := 9) sc_law_due.nd rfl (.inl rfl) (pe_dget (hu_of hr) (pv 1) (pv 4) (fun _ _ => rfl)))
 (C8.pss_cut (ps_if (PW.pt (pw_and (pt_cmpR op_eq (pv 9) pe_str (nomark _)) (pw_and1 (pt_cmpR op_eq (pv 2) pe_int (nomark _)))))
 (pss_one (ps_set (i := 9) sc_law_due.nd rfl (.inl rfl) pe_str))
 pss_nil)
 (pss_cons (ps_if (pt_cmpR op_in_seq (pv 9) (pe_lst (pa_cons pe_str (pa_cons pe_str (pa_cons pe_str pa_nil)))) rfl)
 (pss_one (ps_ret (pe_tup (pa_cons pe_str (pa_cons (pe_tup (pa_cons (pv 4) pa_nil)) (pa_cons (pe_ix ix_list (pe_lst (pa_cons (pv 7) (pa_cons pe_int (pa_cons (pv 8) pa_nil)))) (pe_bm PySem.F.plainAttrs_list PySem.F.slot_list_index PySem.F.type_list_index mt_index (pe_lst (pa_cons pe_str (pa_cons pe_str (pa_cons pe_str pa_nil)))) (pa_cons (pv 9) pa_nil)) (fun _ _ => rfl)) (pa_cons (pe_tup pa_nil) pa_nil)))))))
 pss_nil)
 (pss_cons (ps_if (pt_cmpR op_eq (pv 9) pe_str (nomark _))
 (pss_one (ps_ret (pe_tup (pa_cons pe_str (pa_cons (pe_tup (pa_cons (pv 4) pa_nil)) (pa_cons (pe_tup (pa_cons (pv 6) pa_nil)) (pa_cons (pe_tup pa_nil) pa_nil)))))))
 pss_nil)
 (pss_cons (ps_if (pt_cmpR op_ne (pv 9) pe_str (nomark _))
 (pss_one (ps_ret (pe_tup (pa_cons (pv 9) (pa_cons (pe_tup (pa_cons (pv 4) pa_nil)) (pa_cons pe_non (pa_cons (pe_ix ix_list (pe_lst (pa_cons (pe_tup pa_nil) (pa_cons (pe_tup (pa_cons (pv 5) pa_nil)) pa_nil))) (pe_callTy call_int1 (by rfl) T.n_int (by decide +kernel) (pa_cons (pe_cmpR op_eq (pv 9) pe_str (nomark _)) pa_nil)) (fun _ _ => rfl)) pa_nil)))))))
 pss_nil)
 (pss_cons (OWN.ps_if_txt op_in_str (pv 4) rfl
 (psst_cons (OWN.pst_set (i := 10) sc_law_due.nd rfl (.inl rfl) (CwR.pet_replC (y := "under") (z := "late") (pv 4) (by decide +kernel))) (PSsT.of
 (pss_cons (ps_if (pt_cmpR op_eq (pe_dget (hu_of hr) (pv 1) (pv 10) (fun _ _ => rfl)) pe_str (nomark _))
 (pss_one (ps_ret (pe_tup (pa_cons pe_str (pa_cons (pe_tup (pa_cons (pv 4) (pa_cons (pv 10) pa_nil))) (pa_cons pe_non (pa_cons (pe_tup (pa_cons (pv 5) (pa_cons (pv 6) pa_nil))) pa_nil)))))))
 pss_nil)
 (pss_one (ps_ret (pe_tup (pa_cons pe_str (pa_cons (pe_tup (pa_cons (pv 4) (pa_cons (pv 10) pa_nil))) (pa_cons pe_non (pa_cons (pe_tup (pa_cons (pv 6) pa_nil)) pa_nil))))))))))
 (PSsT.of pss_nil))
 (pss_cons (ps_if (pt_cmpR op_in_str pe_str (pv 4) rfl)
 (pss_cons (ps_set (i := 10) sc_law_due.nd rfl (.inl rfl) pe_str)
 (pss_cons (ps_if (pt_cmpR op_eq (pe_dget (hu_of hr) (pv 1) (pv 10) (fun _ _ => rfl)) pe_str (nomark _))
 (pss_one (ps_ret (pe_tup (pa_cons pe_str (pa_cons (pe_tup (pa_cons (pv 4) (pa_cons (pv 10) pa_nil))) (pa_cons pe_non (pa_cons (pe_callTy call_tuple_of (by rfl) T.n_tuple (by decide +kernel) (pa_cons (pe_callB cr_sortedI (by rfl) T.n_sorted (by decide +kernel) (pa_cons (pe_lst (pa_cons (pe_callTy call_int1 (by rfl) T.n_int (by decide +kernel) (pa_cons (pv 5) pa_nil)) (pa_cons (pe_callTy call_int1 (by rfl) T.n_int (by decide +kernel) (pa_cons (pv 6) pa_nil)) pa_nil))) pa_nil)) pa_nil)) pa_nil)))))))
 pss_nil)
 (pss_one (ps_ret (pe_tup (pa_cons pe_str (pa_cons (pe_tup (pa_cons (pv 4) (pa_cons (pv 10) pa_nil))) (pa_cons pe_non (pa_cons (pe_tup (pa_cons (pv 6) pa_nil)) pa_nil)))))))))
 pss_nil)
 (pss_one (ps_ret (pe_tup (pa_cons pe_str (pa_cons (pe_tup (pa_cons (pv 4) pa_nil)) (pa_cons pe_non (pa_cons (pe_tup (pa_cons (pv 6) pa_nil)) pa_nil)))))))))))))))))), ?_⟩
    have l14 : 14 ≤ sizeLine := by decide
    have one : 1 ≤ sizeLine := by decide
    have two : 2 ≤ sizeLine := by decide
    have three : 3 ≤ sizeLine := by decide
    have four : 4 ≤ sizeLine := by decide
    have p4 : (0 : Int) < 4 := by decide
    have him := List.mem_range.mpr hi
    obtain ⟨⟨a0, a3⟩, ⟨h0, h3⟩⟩ := ask_bd i him
    have i4 : (i : Int) % 4 = ((i % 4 : Nat) : Int) := by omega
    have i4l : i % 4 < 4 := Nat.mod_lt _ (by decide)
    refine ⟨rfl, fun H1 N s1 nN hN => ⟨_, rfl, N, _, _, .str (nmE i), rfl, rfl, SqL.of hN, nm_at hi, ?_⟩⟩
    refine ⟨_, rfl, l14, fun W1 nW1 => ⟨_, rfl, W1, _, _, .int (askL.getD i 0), rfl, rfl, SqL.of upd_same, li_at (L := askL) hi, _, _, rfl, rfl, .inr ⟨by omega, by omega⟩, ?_⟩⟩
    have y1 := same_new (o := .lst (askL.map V.int)) s1 nW1
    refine ⟨_, rfl, l14, fun W2 nW2 => ⟨_, rfl, W2, _, _, .int (hldL.getD i 0), rfl, rfl, SqL.of upd_same, li_at (L := hldL) hi, _, _, rfl, rfl, .inr ⟨by omega, by omega⟩, ?_⟩⟩
    have y2 := same_new (o := .lst (hldL.map V.int)) y1 nW2
    refine ⟨four, fun W3 nW3 => ⟨_, rfl, _, _, rfl, rfl, p4, W3, _, _, .int (lstL.getD (i % 4) 0), rfl, rfl, SqL.of upd_same, by rw [i4]; exact li_at (L := lstL) i4l, ?_⟩⟩
    have y3 := same_new (o := .lst (lstL.map V.int)) y2 nW3
    refine ⟨four, fun W4 nW4 => ⟨_, rfl, _, _, rfl, rfl, p4, W4, _, _, .int (valL.getD (i % 4) 0), rfl, rfl, SqL.of upd_same, by rw [i4]; exact li_at (L := valL) i4l, ?_⟩⟩
    have y4 := same_new (o := .lst (valL.map V.int)) y3 nW4
    refine ⟨_, rfl, _, rfl, t, .str a, rfl, .inl ⟨kv, Sum.inr (nmE i), .inl (y4 _ _ ht), rfl, hva.symm⟩, ?_⟩
    refine ⟨fun τ H' => τ = [some (.int (i : Int)), some (.ref t), some (.int k), some (.int s), some (.str (nmE i)), some (.int (s * askL.getD i 0)), some (.int (s * hldL.getD i 0)), some (.int (lstL.getD (i % 4) 0)), some (.int (valL.getD (i % 4) 0)), some (.str (oldA a (decide (k = 1)))), none] ∧ Same H H', ?_, ?_⟩
    · refine ⟨_, rfl, rfl, _, rfl, ?_⟩
      rw [ds]
      by_cases c1 : a = "old"
      · rw [decide_eq_true c1]
        refine iteT ⟨_, rfl, rfl, _, rfl, ?_⟩
        by_cases c2 : k = 1
        · rw [decide_eq_true (show V.int k = V.int 1 by rw [c2])]
          refine iteT ⟨?_, y4⟩
          rw [show oldA a (decide (k = 1)) = "abort" by unfold oldA; rw [decide_eq_true c2, if_pos ⟨c1, rfl⟩]]
          rfl
        · rw [decide_eq_false (show V.int k ≠ V.int 1 from fun z => c2 (V.int.inj z))]
          refine iteF ⟨?_, y4⟩
          rw [show oldA a (decide (k = 1)) = a by unfold oldA; rw [if_neg (fun z => c2 (of_decide_eq_true z.2))]]
          rfl
      · rw [decide_eq_false c1]
        refine iteF ⟨?_, y4⟩
        rw [show oldA a (decide (k = 1)) = a by unfold oldA; rw [if_neg (fun z => c1 z.1)]]
        rfl
    rintro τ H2 ⟨rfl, s2⟩
    have hw : oldA a (decide (k = 1)) = "wound" → a = "wound" := fun z => by
      unfold oldA at z
      split at z
      · exact absurd z (by decide +kernel)
      · exact z
    unfold dueO at kk
    generalize oldA a (decide (k = 1)) = a' at hw kk
    have ht2 := s2 _ _ ht
    refine ⟨_, rfl, three, fun W nW => ⟨W, _, rfl, .inl (SqL.of upd_same), rfl, rfl, _, rfl, ?_⟩⟩
    have e3 : inV (V.str a') [.str "last", .str "old", .str "open"] = decide (a' ∈ (["last", "old", "open"] : List Str)) := inV_str a' ["last", "old", "open"]
    rw [e3]
    have y5 := same_new (o := .lst [.str "last", .str "old", .str "open"]) s2 nW
    have ht3 : (upd H2 W (.lst [.str "last", .str "old", .str "open"])) t = some (.dK kv) := y5 _ _ ht
    generalize upd H2 W (.lst [.str "last", .str "old", .str "open"]) = H3 at y5 ht3 ⊢
    by_cases c1 : a' ∈ (["last", "old", "open"] : List Str)
    · rw [decide_eq_true c1]
      obtain ⟨j, v, hj, hmin, hv, hd⟩ : ∃ (j : Nat) (v : Int), [V.str "last", .str "old", .str "open"][j]? = some (.str a') ∧ (∀ (m : Nat) (z : V), m < j → [V.str "last", .str "old", .str "open"][m]? = some z → eqV z (.str a') = false) ∧
          atI [V.int (lstL.getD (i % 4) 0), .int 0, .int (valL.getD (i % 4) 0)] (j : Int) = some (.int v) ∧ dueA i a' b = ⟨"read", [nmE i], .int v, []⟩ := by
        have ne1 : eqV (V.str "last") (V.str "old") = false := by decide +kernel
        have ne2 : eqV (V.str "last") (V.str "open") = false := by decide +kernel
        have ne3 : eqV (V.str "old") (V.str "open") = false := by decide +kernel
        have s1 : ("old" : Str) ≠ "last" := by decide +kernel
        have s2 : ("open" : Str) ≠ "last" := by decide +kernel
        have s3 : ("open" : Str) ≠ "old" := by decide +kernel
        have : a' = "last" ∨ a' = "old" ∨ a' = "open" := by simpa using c1
        unfold dueA
        rcases this with rfl | rfl | rfl
        · exact ⟨0, _, rfl, fun m z hm => absurd hm (Nat.not_lt_zero _), rfl, by rw [if_pos rfl]⟩
        · refine ⟨1, 0, rfl, fun m z hm hz => ?_, rfl, by rw [if_neg s1, if_pos rfl]⟩
          obtain rfl : m = 0 := by omega
          cases hz
          exact ne1
        · refine ⟨2, _, rfl, fun m z hm hz => ?_, rfl, by rw [if_neg s2, if_neg s3, if_pos rfl]⟩
          have : m = 0 ∨ m = 1 := by omega
          rcases this with rfl | rfl
          · cases hz; exact ne2
          · cases hz; exact ne3
      rw [hd] at kk
      have ee : eqV (V.str a') (V.str a') = true := by
        have : a' = "last" ∨ a' = "old" ∨ a' = "open" := by simpa using c1
        have z : ∀ x ∈ (["last", "old", "open"] : List Str), eqV (V.str x) (V.str x) = true := by decide +kernel
        exact z a' c1
      refine iteT ⟨_, rfl, one, fun T1 m1 => ⟨_, rfl, _, rfl, three, fun W2 m2 => ⟨three, fun W3 m3 => ⟨.inl ⟨rfl, _, SqL.of upd_same⟩, _, rfl, W3, _, .str a', j, .str a', rfl, rfl, SqL.of upd_same, rfl, rfl, hj, ee, hmin, W2, _, _, .int v, rfl, rfl, SqL.of (kp m3 upd_same), hv, Nat.zero_le _, fun T2 m4 => ⟨four, fun P nP => ?_⟩⟩⟩⟩⟩
      have z1 := same_new (o := .tup [.str (nmE i)]) y5 m1
      have q1 : (upd H3 T1 (.tup [.str (nmE i)])) T1 = some (.tup [.str (nmE i)]) := upd_same
      have z2 := same_new (o := .lst [.int (lstL.getD (i % 4) 0), .int 0, .int (valL.getD (i % 4) 0)]) z1 m2
      have z3 := same_new (o := .lst [.str "last", .str "old", .str "open"]) z2 m3
      have z4 := same_new (o := .tup []) z3 m4
      exact kk _ P (same_new z4 nP) (z4.free nP) (out_new (o := scO s ⟨"read", [nmE i], .int v, []⟩) nP (kp m4 (kp m3 (kp m2 q1))) rfl upd_same)
    rw [decide_eq_false c1]
    have n1 : a' ≠ "last" := fun z => c1 (by rw [z]; simp)
    have n2 : a' ≠ "old" := fun z => c1 (by rw [z]; simp)
    have n3 : a' ≠ "open" := fun z => c1 (by rw [z]; simp)
    unfold dueA at kk
    simp only [if_neg n1, if_neg n2, if_neg n3] at kk
    refine iteF ⟨_, rfl, rfl, _, rfl, ?_⟩
    rw [ds]
    by_cases c2 : a' = "wait"
    · rw [decide_eq_true c2]
      rw [if_pos c2] at kk
      refine iteT ⟨_, rfl, one, fun T1 m1 => ⟨_, rfl, one, fun T2 m2 => ⟨Nat.zero_le _, fun T3 m3 => ⟨four, fun P nP => ?_⟩⟩⟩⟩
      have z1 := same_new (o := .tup [.str (nmE i)]) y5 m1
      have q1 : (upd H3 T1 (.tup [.str (nmE i)])) T1 = some (.tup [.str (nmE i)]) := upd_same
      have z2 := same_new (o := .tup [.int (s * hldL.getD i 0)]) z1 m2
      have q2 : (upd (upd H3 T1 (.tup [.str (nmE i)])) T2 (.tup [.int (s * hldL.getD i 0)])) T2 = some (.tup [.int (s * hldL.getD i 0)]) := upd_same
      have z3 := same_new (o := .tup []) z2 m3
      exact kk _ P (same_new z3 nP) (z3.free nP) (out_new (o := scO s ⟨"wait", [nmE i], .tup [hldL.getD i 0], []⟩) nP (kp m3 (kp m2 q1)) ⟨T2, rfl, kp m3 q2⟩ upd_same)
    rw [decide_eq_false c2]
    rw [if_neg c2] at kk
    refine iteF ⟨_, rfl, rfl, _, rfl, ?_⟩
    rw [ds]
    by_cases c3 : a' = "wound"
    · rw [decide_eq_true c3]
      rw [if_neg (fun z : a' ≠ "wound" => z c3)] at kk
      refine iteF ?_
      have hi6 := wound_at i him (hw c3 ▸ ha)
      have hu : ∀ j ∈ ([5, 11] : List Nat), (!(Builtin.Str.occurrences (nmE j) "under" 0 (nmE j).length 1).isEmpty) = true ∧ Txt.replace (nmE j) "under" "late" = aftE j ∧ (nmE j).length ≤ 100 := by decide +kernel
      have hn : ∀ j ∈ ([6, 7, 12, 13] : List Nat), (!(Builtin.Str.occurrences (nmE j) "under" 0 (nmE j).length 1).isEmpty) = false := by decide +kernel
      have hp : ∀ j ∈ ([12, 13] : List Nat), (!(Builtin.Str.occurrences (nmE j) "passed" 0 (nmE j).length 1).isEmpty) = true := by decide +kernel
      have hq : ∀ j ∈ ([6, 7] : List Nat), (!(Builtin.Str.occurrences (nmE j) "passed" 0 (nmE j).length 1).isEmpty) = false := by decide +kernel
      by_cases c5 : i = 5 ∨ i = 11
      · have m : i ∈ ([5, 11] : List Nat) := by rcases c5 with h | h <;> simp [h]
        obtain ⟨u1, u2, u3⟩ := hu i m
        rw [if_pos c5] at kk
        refine ⟨_, rfl, _, _, rfl, rfl, _, rfl, ?_⟩
        rw [u1]
        refine iteT ⟨_, rfl, _, rfl, ?_, ?_⟩
        · have l4 : ("late" : Str).length = 4 := by decide +kernel
          rw [l4]; omega
        rw [u2]
        refine ⟨_, rfl, _, rfl, t, .str b, rfl, .inl ⟨kv, Sum.inr (aftE i), .inl ht3, rfl, hvb.symm⟩, rfl, _, rfl, ?_⟩
        rw [ds]
        by_cases c6 : b = "abort"
        · rw [decide_eq_true c6]
          rw [if_pos c6] at kk
          refine iteT ⟨_, rfl, _, rfl, two, fun T1 m1 => ⟨_, rfl, _, rfl, two, fun T2 m2 => ⟨four, fun P nP => ?_⟩⟩⟩
          have z1 := same_new (o := .tup [.str (nmE i), .str (aftE i)]) y5 m1
          have q1 : (upd H3 T1 (.tup [.str (nmE i), .str (aftE i)])) T1 = some (.tup [.str (nmE i), .str (aftE i)]) := upd_same
          have z2 := same_new (o := .tup [.int (s * askL.getD i 0), .int (s * hldL.getD i 0)]) z1 m2
          exact kk _ P (same_new z2 nP) (z2.free nP) (out_new (o := scO s ⟨"abort", [nmE i, aftE i], .non, [askL.getD i 0, hldL.getD i 0]⟩) nP (kp m2 q1) rfl upd_same)
        · rw [decide_eq_false c6]
          rw [if_neg c6] at kk
          refine iteF ⟨_, rfl, _, rfl, two, fun T1 m1 => ⟨_, rfl, one, fun T2 m2 => ⟨four, fun P nP => ?_⟩⟩⟩
          have z1 := same_new (o := .tup [.str (nmE i), .str (aftE i)]) y5 m1
          have q1 : (upd H3 T1 (.tup [.str (nmE i), .str (aftE i)])) T1 = some (.tup [.str (nmE i), .str (aftE i)]) := upd_same
          have z2 := same_new (o := .tup [.int (s * hldL.getD i 0)]) z1 m2
          exact kk _ P (same_new z2 nP) (z2.free nP) (out_new (o := scO s ⟨"skip", [nmE i, aftE i], .non, [hldL.getD i 0]⟩) nP (kp m2 q1) rfl upd_same)
      have m4 : i ∈ ([6, 7, 12, 13] : List Nat) := by
        rcases hi6 with h | h | h | h | h | h
        · exact absurd (.inl h) c5
        · simp [h]
        · simp [h]
        · exact absurd (.inr h) c5
        · simp [h]
        · simp [h]
      rw [if_neg c5] at kk
      refine ⟨_, rfl, _, _, rfl, rfl, _, rfl, ?_⟩
      rw [hn i m4]
      refine iteF ⟨_, rfl, _, _, rfl, rfl, _, rfl, ?_⟩
      by_cases c7 : i = 12 ∨ i = 13
      · have m2 : i ∈ ([12, 13] : List Nat) := by rcases c7 with h | h <;> simp [h]
        rw [hp i m2]
        rw [if_pos c7] at kk
        have ea : aftE i = "write free passed" := by
          unfold aftE
          rw [if_neg (by omega), if_neg (by omega)]
        refine iteT ?_
        refine ⟨_, rfl, _, rfl, t, .str b, rfl, .inl ⟨kv, Sum.inr (aftE i), .inl ht3, by rw [ea]; rfl, hvb.symm⟩, rfl, _, rfl, ?_⟩
        rw [ds]
        rw [ea] at kk
        by_cases c6 : b = "abort"
        · rw [decide_eq_true c6]
          rw [if_pos c6] at kk
          refine iteT ⟨_, rfl, _, rfl, two, fun T1 m1 => ⟨_, rfl, .inl ⟨_, rfl, _, rfl, .inl ⟨_, rfl, two, fun W m3 => ⟨W, [s * askL.getD i 0, s * hldL.getD i 0], rfl, SqL.of upd_same, fun ns' S perm srt nS => ⟨S, _, rfl, .inl ⟨SqL.of upd_same, fun T2 m2 => ⟨four, fun P nP => ?_⟩⟩⟩⟩⟩⟩⟩⟩
          have en : ns' = [s * 1, s * 2] := by
            have lt : s * 1 < s * 2 := by omega
            rcases c7 with rfl | rfl
            · exact two_srt perm srt lt
            · exact two_srt (perm.trans (List.Perm.swap ..)) srt lt
          subst en
          have z1 := same_new (o := .tup [.str (nmE i), .str "write free passed"]) y5 m1
          have q1 : (upd H3 T1 (.tup [.str (nmE i), .str "write free passed"])) T1 = some (.tup [.str (nmE i), .str "write free passed"]) := upd_same
          have z2 := same_new (o := .lst [.int (s * askL.getD i 0), .int (s * hldL.getD i 0)]) z1 m3
          have z3 := same_new (o := .lst [.int (s * 1), .int (s * 2)]) z2 nS
          have z4 := same_new (o := .tup [.int (s * 1), .int (s * 2)]) z3 m2
          exact kk _ P (same_new z4 nP) (z4.free nP) (out_new (o := scO s ⟨"abort", [nmE i, "write free passed"], .non, [1, 2]⟩) nP (kp m2 (kp nS (kp m3 q1))) rfl upd_same)
        · rw [decide_eq_false c6]
          rw [if_neg c6] at kk
          refine iteF ⟨_, rfl, _, rfl, two, fun T1 m1 => ⟨_, rfl, one, fun T2 m2 => ⟨four, fun P nP => ?_⟩⟩⟩
          have z1 := same_new (o := .tup [.str (nmE i), .str "write free passed"]) y5 m1
          have q1 : (upd H3 T1 (.tup [.str (nmE i), .str "write free passed"])) T1 = some (.tup [.str (nmE i), .str "write free passed"]) := upd_same
          have z2 := same_new (o := .tup [.int (s * hldL.getD i 0)]) z1 m2
          exact kk _ P (same_new z2 nP) (z2.free nP) (out_new (o := scO s ⟨"put", [nmE i, "write free passed"], .non, [hldL.getD i 0]⟩) nP (kp m2 q1) rfl upd_same)
      · have m2 : i ∈ ([6, 7] : List Nat) := by
          simp only [List.mem_cons, List.not_mem_nil, or_false] at m4 ⊢
          omega
        rw [hq i m2]
        rw [if_neg c7] at kk
        refine iteF ⟨_, rfl, one, fun T1 m1 => ⟨_, rfl, one, fun T2 m2 => ⟨four, fun P nP => ?_⟩⟩⟩
        have z1 := same_new (o := .tup [.str (nmE i)]) y5 m1
        have q1 : (upd H3 T1 (.tup [.str (nmE i)])) T1 = some (.tup [.str (nmE i)]) := upd_same
        have z2 := same_new (o := .tup [.int (s * hldL.getD i 0)]) z1 m2
        exact kk _ P (same_new z2 nP) (z2.free nP) (out_new (o := scO s ⟨"put", [nmE i], .non, [hldL.getD i 0]⟩) nP (kp m2 q1) rfl upd_same)
    · rw [decide_eq_false c3]
      rw [if_pos c3] at kk
      refine iteT ⟨_, rfl, _, rfl, one, fun T1 m1 => ⟨Nat.zero_le _, fun E1 m2 => ⟨_, rfl, one, fun E2 m3 => ⟨two, fun W m4 => ⟨_, rfl, rfl, .inr ⟨_, rfl, ?_⟩⟩⟩⟩⟩⟩
      rw [ds]
      have z1 := same_new (o := .tup [.str (nmE i)]) y5 m1
      have q1 : (upd H3 T1 (.tup [.str (nmE i)])) T1 = some (.tup [.str (nmE i)]) := upd_same
      have z2 := same_new (o := .tup []) z1 m2
      have q2 : (upd (upd H3 T1 (.tup [.str (nmE i)])) E1 (.tup [])) E1 = some (.tup []) := upd_same
      have z3 := same_new (o := .tup [.int (s * askL.getD i 0)]) z2 m3
      have q3 : (upd (upd (upd H3 T1 (.tup [.str (nmE i)])) E1 (.tup [])) E2 (.tup [.int (s * askL.getD i 0)])) E2 = some (.tup [.int (s * askL.getD i 0)]) := upd_same
      have z4 := same_new (o := .lst [.ref E1, .ref E2]) z3 m4
      by_cases c4 : a' = "abort"
      · rw [decide_eq_true c4]
        rw [if_pos c4] at kk
        refine ⟨W, _, _, .ref E2, rfl, rfl, SqL.of upd_same, rfl, four, fun P nP => ?_⟩
        exact kk _ P (same_new z4 nP) (z4.free nP) (out_new (o := scO s ⟨a', [nmE i], .non, [askL.getD i 0]⟩) nP (kp m4 (kp m3 (kp m2 q1))) rfl (kp m4 q3))
      · rw [decide_eq_false c4]
        rw [if_neg c4] at kk
        refine ⟨W, _, _, .ref E1, rfl, rfl, SqL.of upd_same, rfl, four, fun P nP => ?_⟩
        exact kk _ P (same_new z4 nP) (z4.free nP) (out_new (o := scO s ⟨a', [nmE i], .non, []⟩) nP (kp m4 (kp m3 (kp m2 q1))) rfl (kp m4 (kp m3 q2)))
end
end K11

namespace K11
open PySem L2 SI CM BK OWN MIR StX TX TL
section
variable {w : World} {K : PySem.W.Frag} {mg : Str → Option Value} {base : Heap} (T : Txt w K mg)
theorem name_short {n : Str} (h : NmOk n) : n.length ≤ 900 := by have := h.2.1; omega
theorem part_good {H : Hp} {q : Addr} : ∀ {x : Stp}, 1 ≤ x.who → x.who ≤ top30 → KdOk x → (∀ k s n, x = .req k s n → NmOk n) → StpAt H q x → PartAt H (.ref q) true
  | .req k s n, h1, h2, hk, hn, z => by
    have hk : k ∈ KINDS := hk
    have lk : k.length ≤ 900 := (show ∀ k ∈ KINDS, k.length ≤ 900 from by decide +kernel) k hk
    have hn := hn k s n rfl
    refine .inr ⟨q, _, rfl, z, fun x hx => ?_, by show 3 ≤ 100; decide, ?_⟩
    · simp only [List.mem_cons, List.not_mem_nil, or_false] at hx
      rcases hx with e | e | e
      · subst e; exact ⟨rfl, fun z hz => by cases hz; exact lk⟩
      · subst e; exact ⟨rfl, fun z hz => by cases hz⟩
      · subst e; exact ⟨rfl, fun z hz => by cases hz; exact name_short hn⟩
    · have e1 : inV (V.str k) [V.str "read", V.str "write"] = true := (show ∀ k ∈ KINDS, inV (V.str k) [V.str "read", V.str "write"] = true from by decide +kernel) k hk
      have e2 : stampV (.int s) 1 = true := by
        show (decide ((1 : Int) ≤ s) && decide (s ≤ top30)) = true
        rw [decide_eq_true (show (1 : Int) ≤ s from h1), decide_eq_true (show s ≤ top30 from h2)]; rfl
      show true = (inV (V.str k) [V.str "read", V.str "write"] && (stampV (.int s) 1 && nameV (.str n)))
      rw [e1, e2, hn.name]; rfl
  | .com s, h1, h2, _, _, z => by
    refine .inr ⟨q, _, rfl, z, fun x hx => ?_, by show 2 ≤ 100; decide, ?_⟩
    · simp only [List.mem_cons, List.not_mem_nil, or_false] at hx
      rcases hx with e | e
      · subst e; exact ⟨rfl, fun z hz => by cases hz; decide +kernel⟩
      · subst e; exact ⟨rfl, fun z hz => by cases hz⟩
    · have e1 : inV (V.str "commit") [V.str "commit", V.str "abort"] = true := by decide +kernel
      have e2 : stampV (.int s) 1 = true := by
        show (decide ((1 : Int) ≤ s) && decide (s ≤ top30)) = true
        rw [decide_eq_true (show (1 : Int) ≤ s from h1), decide_eq_true (show s ≤ top30 from h2)]; rfl
      show true = (inV (V.str "commit") [V.str "commit", V.str "abort"] && stampV (.int s) 1)
      rw [e1, e2]; rfl
  | .abo s, h1, h2, _, _, z => by
    refine .inr ⟨q, _, rfl, z, fun x hx => ?_, by show 2 ≤ 100; decide, ?_⟩
    · simp only [List.mem_cons, List.not_mem_nil, or_false] at hx
      rcases hx with e | e
      · subst e; exact ⟨rfl, fun z hz => by cases hz; decide +kernel⟩
      · subst e; exact ⟨rfl, fun z hz => by cases hz⟩
    · have e1 : inV (V.str "abort") [V.str "commit", V.str "abort"] = true := by decide +kernel
      have e2 : stampV (.int s) 1 = true := by
        show (decide ((1 : Int) ≤ s) && decide (s ≤ top30)) = true
        rw [decide_eq_true (show (1 : Int) ≤ s from h1), decide_eq_true (show s ≤ top30 from h2)]; rfl
      show true = (inV (V.str "abort") [V.str "commit", V.str "abort"] && stampV (.int s) 1)
      rw [e1, e2]; rfl
theorem parts_good {H : Hp} : ∀ {us : List V} {ys : List Stp}, RunAt H us ys → (∀ y ∈ ys, 1 ≤ y.who ∧ y.who ≤ top30 ∧ KdOk y ∧ ∀ k s n, y = .req k s n → NmOk n) → PartsAt H us (ys.map fun _ => true)
  | _, _, .nil, _ => .nil
  | _, _, .cons ⟨q, e, h⟩ t, hx => by
    subst e
    obtain ⟨a, b, c, d⟩ := hx _ (List.mem_cons_self ..)
    exact .cons (part_good a b c d h) (parts_good t fun x h => hx x (List.mem_cons_of_mem _ h))
def scM (s : Int) (hs : 1 ≤ s) (nm : Str) : Mv [("x" : Str)] where
  μ t := s * t
  μi t := if t % s = 0 then some (t / s) else none
  ν _ := nm
  νi m := if m = nm then some "x" else none
  lt {a b} h := Int.mul_lt_mul_of_pos_left h (by omega)
  z := Int.mul_zero s
  l t := by
    rw [Int.mul_emod_right, if_pos rfl, Int.mul_ediv_cancel_left t (by omega)]
  r {t u} h := by
    split at h
    · rename_i c
      cases h
      exact (Int.mul_ediv_cancel' (Int.dvd_of_emod_eq_zero c)).symm
    · cases h
  nl n hn := by rw [if_pos rfl, List.mem_singleton.mp hn]
  nr {m n} h := by
    split at h
    · assumption
    · cases h
theorem scX_eq {s : Int} {hs : 1 ≤ s} {nm : Str} {xs : List Stp} : xs.map (scX s nm) = xs.map (scM s hs nm).mX := by
  refine List.map_congr_left fun x _ => ?_
  cases x with
  | req k t n =>
    show Stp.req k (t * s) nm = Stp.req k (s * t) nm
    rw [Int.mul_comm]
  | com t =>
    show Stp.com (t * s) = Stp.com (s * t)
    rw [Int.mul_comm]
  | abo t =>
    show Stp.abo (t * s) = Stp.abo (s * t)
    rw [Int.mul_comm]
theorem scO_eq {s : Int} {hs : 1 ≤ s} {nm : Str} {o : Out} : (scM s hs nm).mOut o = scO s o := by
  obtain ⟨w, m, v, f⟩ := o
  cases v <;> rfl
def stpOk (x : Stp) : Bool := match x with
  | .req k _ n => decide (k ∈ KINDS) && decide (n = "x")
  | _ => true
theorem way_kd : ((List.range 14).all fun i => (wayL.getD i []).all fun x => stpOk x && (decide (1 ≤ x.who) && decide (x.who ≤ 3))) = true := by decide +kernel
theorem way_in {i : Nat} (hi : i < 14) {x : Stp} (hx : x ∈ wayL.getD i []) : KdOk x ∧ Mv.InX [("x" : Str)] x ∧ 1 ≤ x.who ∧ x.who ≤ 3 ∧ ∀ k t n, x = .req k t n → n = "x" := by
  have h := List.all_eq_true.mp (List.all_eq_true.mp way_kd i (List.mem_range.mpr hi)) x hx
  simp only [Bool.and_eq_true, decide_eq_true_eq] at h
  obtain ⟨h1, h2, h3⟩ := h
  cases x with
  | req k t n =>
    unfold stpOk at h1
    simp only [Bool.and_eq_true, decide_eq_true_eq] at h1
    exact ⟨h1.1, by show n ∈ _; rw [h1.2]; simp, h2, h3, fun k' t' n' e => by cases e; exact h1.2⟩
  | com t => exact ⟨trivial, trivial, h2, h3, fun _ _ _ e => by cases e⟩
  | abo t => exact ⟨trivial, trivial, h2, h3, fun _ _ _ e => by cases e⟩
theorem way_len : ((List.range 14).all fun i => decide (2 ≤ (wayL.getD i []).length) && decide ((wayL.getD i []).length ≤ 5)) = true := by decide +kernel
theorem sc_out {B : Bkm} (hf : ∀ x ∈ ENT, B.f x ∈ chs x) (he : isEnds (.str B.ends)) (hk : 1 ≤ B.keep) {i : Nat} (hi : i < 14) (hp : i ≠ 8 → i ≠ 12 → B.f "write free passed" = "put") {s : Int} (hs : 1 ≤ s) {nm : Str} :
    (∀ j, j + 1 < (wayL.getD i []).length → passW (outN B ((wayL.getD i []).map (scX s nm)) j).word = true) ∧ outN B ((wayL.getD i []).map (scX s nm)) ((wayL.getD i []).length - 1) = scO s (dueO i (B.f (nmE i)) (B.f (aftE i)) (decide (B.keep = 1))) := by
  obtain ⟨w1, w2⟩ := way_out hf he hk hi hp
  have kd : ∀ x ∈ wayL.getD i [], KdOk x := fun x hx => (way_in hi hx).1
  have ix : ∀ x ∈ wayL.getD i [], Mv.InX [("x" : Str)] x := fun x hx => (way_in hi hx).2.1
  rw [scX_eq (hs := hs)]
  refine ⟨fun j hj => ?_, ?_⟩
  · rw [mv_out (scM s hs nm) hf kd ix j]
    exact w1 j hj
  · rw [mv_out (scM s hs nm) hf kd ix, w2, scO_eq]
end
end K11

namespace K11
open PySem L2 SI CM BK OWN
section
variable {w : World} {K : PySem.W.Frag} {mg : Str → Option Value} {base : Heap} (T : Txt w K mg)
abbrev psB : List Str := ["self", "answers", "ends", "keep"]
/-- Book(x, ends=.., keep=..) -/
theorem kbEK : ∃ (g : List Value → List Value → List Value), KBn K T.d_Book_init psB 2 ["ends", "keep"] g (fun vs zs => vs ++ zs) := by
  obtain ⟨its, mv, h⟩ := T.F_Book_init.kbinds (ps := psB) 2 ["ends", "keep"] [] (fun us its mv ws => us ++ ws) (by simp) (by simp) (fun q h => by cases h) (fun r1 _ _ r4 => r1.append r4)
    fun T D doc pm an cdv ct us its mv ws l1 l2 l3 l4 => match us, its, mv, ws, l1, l2, l3, l4 with
      | [_, _], [_], [], [_, _], _, _, _, _ => ⟨_, rfl, rfl⟩
  exact ⟨_, h⟩
/-- Book(x, ends=..) -/
theorem kbE : ∃ (g : List Value → List Value → List Value), KBn K T.d_Book_init psB 2 ["ends"] g (fun vs zs => vs ++ (zs ++ [.int 1])) := by
  obtain ⟨its, mv, h⟩ := T.F_Book_init.kbinds (ps := psB) 2 ["ends"] [("keep", .int 1)] (fun us its mv ws => us ++ (ws ++ mv)) (by simp) (by simp) (fun q h => by rw [List.mem_singleton.mp h]; simp) (fun r1 _ r3 r4 => r1.append (r4.append r3))
    fun T D doc pm an cdv ct us its mv ws l1 l2 l3 l4 => match us, its, mv, ws, l1, l2, l3, l4 with
      | [_, _], [_], [_], [_], _, _, _, _ => ⟨_, rfl, _, _, _, _, _, _, rfl, rfl, rfl⟩
  exact ⟨_, h⟩
/-- Book(x, keep=..) -/
theorem kbK : ∃ (g : List Value → List Value → List Value), KBn K T.d_Book_init psB 2 ["keep"] g (fun vs zs => vs ++ ([.str "now"] ++ zs)) := by
  obtain ⟨its, mv, h⟩ := T.F_Book_init.kbinds (ps := psB) 2 ["keep"] [("ends", .str "now")] (fun us its mv ws => us ++ (mv ++ ws)) (by simp) (by simp) (fun q h => by rw [List.mem_singleton.mp h]; simp) (fun r1 _ r3 r4 => r1.append (r3.append r4))
    fun T D doc pm an cdv ct us its mv ws l1 l2 l3 l4 => match us, its, mv, ws, l1, l2, l3, l4 with
      | [_, _], [_], [_], [_], _, _, _, _ => ⟨_, rfl, _, _, _, _, _, _, rfl, rfl, rfl⟩
  exact ⟨_, h⟩
/-- Book() -/
theorem kb0 : ∃ ds, Vals [.non, .str "now", .int 1] ds ∧ Binds K T.d_Book_init psB ds :=
  T.F_Book_init.binds (ps := psB) 1 0 (by simp) rfl (fun T D doc pm an cdv ct us its ks l1 l2 l3 => match us, its, ks, l1, l2, l3 with
    | [_], [_], [_, _], _, _, _ => ⟨_, rfl, _, _, _, _, _, _, rfl, rfl, _, _, _, _, _, _, rfl, rfl, rfl⟩) (by simp)
/-- Book(x) -/
theorem kb1 : ∃ ds, Vals [.str "now", .int 1] ds ∧ Binds K T.d_Book_init psB ds :=
  T.F_Book_init.binds (ps := psB) 2 1 (by simp) rfl (fun T D doc pm an cdv ct us its ks l1 l2 l3 => match us, its, ks, l1, l2, l3 with
    | [_, _], [_], [_, _], _, _, _ => ⟨_, rfl, _, _, _, _, _, _, rfl, rfl, _, _, _, _, _, _, rfl, rfl, rfl⟩) (by simp)
/-- a book is made -/
theorem mk_book {C S B A : Addr} {H2 : Hp} {g : V} {gv : List (Str × V)} {e : Str} {k : Int} {R : VK} {E : XK} {x dx : Addr} (hg : Giv H2 g gv) (hI : isEnds (.str e)) (hk : keepV (.int k) = true) (hok : ∀ q ∈ gv, okPair q = true)
    (nx : H2 x = none) (ndx : H2 dx = none) (h : ∀ H' d, Same H2 H' → H2 d = none → Bk C H' x dx d (fill gv fun _ => "abort") e k → R .non H') :
    spInit C S B A [.ref x, g, .str e, .int k] (upd (upd H2 dx (.own x)) x (.ins C dx [])) R E := by
  have sm : Same H2 (upd (upd H2 dx (.own x)) x (.ins C dx [])) := fun b o z => by
    rw [upd_ne (ne_of_none z nx), upd_ne (ne_of_none z ndx)]
    exact z
  refine ⟨x, dx, g, gv, _, _, rfl, upd_same, rfl, rfl, ?_, fun q hq => ?_, ⟨fun e' k' he _ hk' _ _ H' d b nd Bb => ?_, fun z => absurd hI z, (fun _ z => by rw [hk] at z; cases z), fun _ _ pre q post eq _ hn => ?_, fun _ _ pre q post eq _ _ hb => ?_⟩⟩
  · rcases hg with ⟨h1, h2⟩ | ⟨a, h1, h2⟩
    · exact .inl ⟨h1, h2⟩
    · exact .inr ⟨a, h1, sm _ _ h2⟩
  · have z := hok q hq
    obtain ⟨qe, qv⟩ := q
    cases qv with
    | str a => rfl
    | _ => unfold okPair isAnsB at z; simp at z
  · cases he
    cases hk'
    refine h H' d (fun b' o z => b b' o (ne_of_none z nx) (sm b' o z)) ?_ Bb
    exact sm.free nd
  · have z := hok q (by rw [eq]; simp)
    unfold okPair at z
    rw [decide_eq_false hn] at z
    cases z
  · have z := hok q (by rw [eq]; simp)
    unfold okPair at z
    rw [hb, Bool.and_false] at z
    cases z
/-- a book as it may stand -/
structure Gd (f : Str → Str) (e : Str) (k : Int) : Prop where
  en : isEnds (.str e)
  kp : keepV (.int k) = true
  an : ∀ x ∈ ENT, f x ∈ chs x
theorem Bk.congr {C : Addr} {H : Hp} {b dx d : Addr} {f f' : Str → Str} {e : Str} {k : Int} (h : Bk C H b dx d f e k) (hf : ∀ x ∈ ENT, f x = f' x) : Bk C H b dx d f' e k := ⟨h.ins, by rw [h.tbl]; exact congrArg _ (congrArg _ (tab_congr hf))⟩
theorem ok_tab {f : Str → Str} (h : ∀ x ∈ ENT, f x ∈ chs x) : ∀ q ∈ ENT.map (fun e => (e, V.str (f e))), okPair q = true := by
  intro q hq
  obtain ⟨e, he, rfl⟩ := List.mem_map.mp hq
  show (decide (e ∈ ENT) && decide (f e ∈ chs e)) = true
  rw [decide_eq_true he, decide_eq_true (h e he)]
  rfl
end
end K11

namespace K11
open PySem L2 SI CM BK OWN MIR StX TX TL
section
variable {w : World} {K : PySem.W.Frag} {mg : Str → Option Value} {base : Heap} (T : Txt w K mg)
theorem mk2 {k1 k2 : Key} {v1 v2 : V} (h : k1 ≠ k2) : mergeK [] [(k1, v1), (k2, v2)] = [(k1, v1), (k2, v2)] := by
  show putK (putK [] k1 v1) k2 v2 = _
  have e1 : putK [] k1 v1 = [(k1, v1)] := putK_new _ rfl
  rw [e1]
  exact putK_new _ (by rw [valV_neg (by exact h)]; rfl)
abbrev L1 : List Str := ["write late", "write free passed", "write late passed"]
theorem l1_ent : (∀ x ∈ L1, x ∈ ENT) ∧ L1.Nodup := by decide +kernel
theorem aft_l1 : ∀ i ∈ List.range 14, aftE i ∈ L1 := by decide +kernel
theorem nmE_ent : ∀ i ∈ List.range 14, nmE i ∈ ENT ∧ (nmE i = "write free passed" → i = 8) := by decide +kernel
theorem abo_chs : ∀ x ∈ ENT, ("abort" : Str) ∈ chs x := by decide +kernel
/-- the table that the law writes -/
structure TbOk (i : Nat) (L : List Str) (f : Str → Str) : Prop where
  nd : L.Nodup
  sub : ∀ x ∈ L1, x ∈ L
  ok : ∀ x ∈ L, x ∈ ENT ∧ f x ∈ chs x
  wf : i ≠ 8 → i ≠ 12 → f "write free passed" = "put"
def bkF (L : List Str) (f : Str → Str) : Str → Str := fun x => if x ∈ L then f x else "abort"
theorem TbOk.put {i : Nat} {L : List Str} {f : Str → Str} (h : TbOk i L f) (hi : i < 14) {g : Str} (hg : g ∈ chs (nmE i)) : ∃ L', putK (tabS L f) (Sum.inr (nmE i)) (.str g) = tabS L' (put f (nmE i) g) ∧ TbOk i L' (put f (nmE i) g) ∧ nmE i ∈ L' := by
  obtain ⟨n1, n2⟩ := nmE_ent i (List.mem_range.mpr hi)
  have okf : ∀ x, x ∈ ENT ∧ f x ∈ chs x → x ∈ ENT ∧ BK.put f (nmE i) g x ∈ chs x := fun x hx => ⟨hx.1, by
    by_cases c : x = nmE i
    · rw [c, put_same]; exact hg
    · rw [put_ne c]; exact hx.2⟩
  have wf : i ≠ 8 → i ≠ 12 → BK.put f (nmE i) g "write free passed" = "put" := fun a b => by
    rw [put_ne (fun z => a (n2 z.symm))]
    exact h.wf a b
  by_cases c : nmE i ∈ L
  · exact ⟨L, put_in (g := V.str) c, ⟨h.nd, h.sub, fun x hx => okf x (h.ok x hx), wf⟩, c⟩
  · refine ⟨L ++ [nmE i], put_new (g := V.str) c, ⟨?_, fun x hx => List.mem_append.mpr (.inl (h.sub x hx)), fun x hx => ?_, wf⟩, by simp⟩
    · rw [List.nodup_append]
      exact ⟨h.nd, by simp, fun x hx y hy z => c (by rw [List.mem_singleton.mp hy] at z; rw [← z]; exact hx)⟩
    · rcases List.mem_append.mp hx with hx | hx
      · exact okf x (h.ok x hx)
      · rw [List.mem_singleton.mp hx]
        exact ⟨n1, by rw [put_same]; exact hg⟩
theorem TbOk.len {i : Nat} {L : List Str} {f : Str → Str} (h : TbOk i L f) : L.length ≤ 14 := by
  have := nd_le h.nd fun x hx => (h.ok x hx).1
  rw [ent_len] at this
  exact this
theorem keepV_ok {m : Nat} (h1 : 1 ≤ m) (h2 : m ≤ 20) : keepV (.int (m : Nat)) = true := by
  show (decide ((1 : Int) ≤ (m : Nat)) && decide (((m : Nat) : Int) ≤ 20)) = true
  rw [decide_eq_true (by omega), decide_eq_true (by omega)]
  rfl
theorem TbOk.all {i : Nat} {L : List Str} {f : Str → Str} (h : TbOk i L f) : ∀ x ∈ ENT, bkF L f x ∈ chs x := fun x hx => by
  unfold bkF
  by_cases c : x ∈ L
  · rw [if_pos c]; exact (h.ok x c).2
  · rw [if_neg c]; exact abo_chs x hx
theorem TbOk.pairs {i : Nat} {L : List Str} {f : Str → Str} (h : TbOk i L f) : ∀ q ∈ L.map (fun e => (e, V.str (f e))), okPair q = true := by
  intro q hq
  obtain ⟨e, he, rfl⟩ := List.mem_map.mp hq
  have := ok_tab h.all (e, V.str (bkF L f e)) (List.mem_map.mpr ⟨e, (h.ok e he).1, rfl⟩)
  unfold bkF at this
  rw [if_pos he] at this
  exact this
theorem TbOk.val {L : List Str} {f : Str → Str} {e : Str} (h : e ∈ L) : valV (tabS L f) (Sum.inr e) = some (.str (f e)) := val_in (g := V.str) h
theorem dueA_fal {i : Nat} {a b : Str} : (dueA i a b).fallen.length ≤ 2 := by
  unfold dueA
  repeat' split
  all_goals first | exact Nat.zero_le _ | exact (show 1 ≤ 2 by decide) | exact Nat.le_refl _
theorem run_parts {i : Nat} (hi : i < 14) {s : Int} (hs1 : 1 ≤ s) (hs2 : s ≤ 10 ^ 29) {nm : Str} (hn : NmOk nm) : ∀ y ∈ (wayL.getD i []).map (scX s nm), 1 ≤ y.who ∧ y.who ≤ top30 ∧ KdOk y ∧ ∀ k s' n, y = .req k s' n → NmOk n := by
  intro y hy
  obtain ⟨x, hx, rfl⟩ := List.mem_map.mp hy
  obtain ⟨h1, _, h3, h4, _⟩ := way_in hi hx
  have tp : top30 = 1000000000000000000000000000000 := by decide
  have e29 : (10 : Int) ^ 29 = 100000000000000000000000000000 := by decide
  rw [e29] at hs2
  have bd : 1 ≤ x.who * s ∧ x.who * s ≤ top30 := by
    rw [tp]
    have : x.who = 1 ∨ x.who = 2 ∨ x.who = 3 := by omega
    rcases this with e | e | e <;> rw [e] <;> omega
  cases x with
  | req k t n => exact ⟨bd.1, bd.2, h1, fun k' s' n' e => by cases e; exact hn⟩
  | com t => exact ⟨bd.1, bd.2, trivial, fun _ _ _ e => by cases e⟩
  | abo t => exact ⟨bd.1, bd.2, trivial, fun _ _ _ e => by cases e⟩
def spLaw (K : PySem.W.Frag) : Sp := fun vs H Q _ => ∃ (a : Addr) (ns : List Int), vs = [.ref a] ∧ SqL K H a (ns.map V.int) ∧ ns.length ≤ 63 ∧ ∀ H', Q (.bl true) H'
theorem ok_law : FnOk PP w K mg base CX0 30 T.f_law T.d_law ["_law_script"] (spLaw K) := by
  refine T.F_law.ok sc_law (fun vs H Q E h => ?_) (fun cdv A outer s0 H vs Q E hr h => ?_)
  · obtain ⟨a, ns, rfl, _⟩ := h
    rfl
  · obtain ⟨a, ns, rfl, hS, hlen, kk⟩ := h
    obtain ⟨g_kbEK, hkbEK⟩ := kbEK T
    refine ⟨_, pss_cons (ps_set (i := 1) sc_law.nd rfl (.inl rfl) (pe_call0 (ok_entries T) (hr.mono (by decide)) (by rfl) T.g_law_entries T.F_law_entries.kp (b_law_entries T) .nil pass0))
 (pss_cons (ps_set (i := 2) sc_law.nd rfl (.inl rfl) (pe_op op_add pe_int (pe_op op_mod (pe_callTy call_int1 (by rfl) T.n_int (by decide +kernel) (pa_cons (pe_call (ok_cell T) (hr.mono (by decide)) (by rfl) T.g_law_cell T.F_law_cell.kp (b_law_cell T) .nil pass0 (pa_cons (pv 0) (pa_cons pe_int pa_nil))) pa_nil)) (pe_op op_pow pe_int pe_int))))
 (pss_cons (ps_set (i := 3) sc_law.nd rfl (.inl rfl) (pe_ix ix_list (pe_call (ok_names T) (hr.mono (by decide)) (by rfl) T.g_law_names T.F_law_names.kp (b_law_names T) .nil pass0 (pa_cons (pe_call (ok_cell T) (hr.mono (by decide)) (by rfl) T.g_law_cell T.F_law_cell.kp (b_law_cell T) .nil pass0 (pa_cons (pv 0) (pa_cons pe_int pa_nil))) pa_nil)) pe_int (fun _ _ => rfl)))
 (pss_cons (ps_set (i := 4) sc_law.nd rfl (.inl rfl) (pe_ix ix_list (pe_lst (pa_cons pe_str (pa_cons pe_str pa_nil))) (pe_op op_mod (pe_callTy call_int1 (by rfl) T.n_int (by decide +kernel) (pa_cons (pe_call (ok_cell T) (hr.mono (by decide)) (by rfl) T.g_law_cell T.F_law_cell.kp (b_law_cell T) .nil pass0 (pa_cons (pv 0) (pa_cons pe_int pa_nil))) pa_nil)) pe_int) (fun _ _ => rfl)))
 (pss_cons (ps_set (i := 5) sc_law.nd rfl (.inl rfl) (pe_ix ix_list (pe_lst (pa_cons pe_int (pa_cons pe_int (pa_cons pe_int pa_nil)))) (pe_op op_mod (pe_callTy call_int1 (by rfl) T.n_int (by decide +kernel) (pa_cons (pe_op op_fdiv (pe_call (ok_cell T) (hr.mono (by decide)) (by rfl) T.g_law_cell T.F_law_cell.kp (b_law_cell T) .nil pass0 (pa_cons (pv 0) (pa_cons pe_int pa_nil))) pe_int) pa_nil)) pe_int) (fun _ _ => rfl)))
 (pss_cons (ps_set (i := 6) sc_law.nd rfl (.inl rfl) (pe_call (ok_row T) (hr.mono (by decide)) (by rfl) T.g_law_row T.F_law_row.kp (b_law_row T) .nil pass0 (pa_cons (pe_call (ok_cell T) (hr.mono (by decide)) (by rfl) T.g_law_cell T.F_law_cell.kp (b_law_cell T) .nil pass0 (pa_cons (pv 0) (pa_cons pe_int pa_nil))) (pa_cons pe_int (pa_cons pe_int pa_nil)))))
 (C8.pss_cut (ps_for PassesOwn.never rfl (pi_range1 rfl T.n_range (pa_cons pe_int pa_nil)) (pg_name (i := 7) sc_law.nd rfl (.inl rfl))
 (pss_cons (ps_set (i := 8) sc_law.nd rfl (.inl rfl) (pe_ix ix_list (pv 1) (pv 7) (fun _ _ => rfl)))
 (pss_cons (ps_set (i := 9) sc_law.nd rfl (.inl rfl) (pe_disp (pps_cons pe_str (pe_ix ix_list (pe_lst (pa_cons pe_str (pa_cons pe_str pa_nil))) (pe_op op_mod (pe_ix ix_list (pv 6) (pv 7) (fun _ _ => rfl)) pe_int) (fun _ _ => rfl)) (pps_cons pe_str pe_str pps_nil)) (by rfl) (by rfl) (fun z => by cases z) (by decide)))
 (pss_cons (ps_dput (hu_of hr) (pv 9) pe_str (pe_ix ix_list (pe_lst (pa_cons pe_str (pa_cons pe_str pa_nil))) (pe_op op_mod (pe_callTy call_int1 (by rfl) T.n_int (by decide +kernel) (pa_cons (pe_op op_fdiv (pe_ix ix_list (pv 6) (pv 7) (fun _ _ => rfl)) pe_int) pa_nil)) pe_int) (fun _ _ => rfl)) rfl)
 (C8.pss_cut (ps_if (pt_cmpR op_eq (pv 7) pe_int (nomark _))
 (pss_one (ps_dput (hu_of hr) (pv 9) pe_str (pe_ix ix_list (pe_lst (pa_cons pe_str (pa_cons pe_str pa_nil))) (pe_op op_mod (pe_callTy call_int1 (by rfl) T.n_int (by decide +kernel) (pa_cons (pe_op op_fdiv (pe_ix ix_list (pv 6) (pv 7) (fun _ _ => rfl)) pe_int) pa_nil)) pe_int) (fun _ _ => rfl)) rfl))
 pss_nil)
 (pss_one (ps_for PassesOwn.never rfl (pi_list (pe_call (ok_choices T) (hr.mono (by decide)) (by rfl) T.g_law_choices T.F_law_choices.kp (b_law_choices T) .nil pass0 (pa_cons (pv 8) pa_nil))) (pg_name (i := 10) sc_law.nd rfl (.inl rfl))
 (pss_cons (ps_dput (hu_of hr) (pv 9) (pv 8) (pv 10) rfl)
 (pss_cons (ps_set (i := 11) sc_law.nd rfl (.inl rfl) (pe_call (ok_lscaled T) (hr.mono (by decide)) (by rfl) T.g_law_scaled T.F_law_scaled.kp (b_law_scaled T) .nil pass0 (pa_cons (pe_ix ix_list (pe_call0 (ok_lways T) (hr.mono (by decide)) (by rfl) T.g_law_ways T.F_law_ways.kp (b_law_ways T) .nil pass0) (pv 7) (fun _ _ => rfl)) (pa_cons (pv 2) (pa_cons (pv 3) pa_nil)))))
 (pss_cons (ps_set (i := 12) sc_law.nd rfl (.inl rfl) (pe_call (ok_play T) (hr.mono (by decide)) (by rfl) T.g_play T.F_play.kp (b_play T) .nil passL (pa_cons (pe_makeK (n := 1) T.mk_Book (ok_Book_init T) (hr.mono (by decide)) (by rfl) T.g_Book hkbEK passL (pa_cons (pv 9) pa_nil) (pk_cons (pv 4) (pk_cons (pv 5) pk_nil))) (pa_cons (pv 11) pa_nil))))
 (pss_cons (ps_if (PW.pt (pw_or (pt_not (pt_val (pe_callB call_isi (by rfl) T.n_isinstance (by decide +kernel) (pa_cons (pv 12) (pa_cons (pe_bltn (v := .ty "list") (by rfl) T.n_list (by decide +kernel) rfl) pa_nil))))) (pw_or1 (pt_cmpR op_ne (pe_callB call_len_seq (by rfl) T.n_len PySem.boot_len (pa_cons (pv 12) pa_nil)) (pe_callB call_len_seq (by rfl) T.n_len PySem.boot_len (pa_cons (pv 11) pa_nil)) (nomark _)))))
 (pss_one (ps_ret pe_bl))
 pss_nil)
 (C8.pss_cut (ps_for PassesOwn.never rfl (pi_range1 rfl T.n_range (pa_cons (pe_op op_sub (pe_callB call_len_seq (by rfl) T.n_len PySem.boot_len (pa_cons (pv 11) pa_nil)) pe_int) pa_nil)) (pg_name (i := 13) sc_law.nd rfl (.inl rfl))
 (pss_one (ps_if (pt_cmpR op_notIn_seq (pe_ix ix_tup (pe_ix ix_list (pv 12) (pv 13) (fun _ _ => rfl)) pe_int (fun _ _ => rfl)) (pe_lst (pa_cons pe_str (pa_cons pe_str (pa_cons pe_str pa_nil)))) rfl)
 (pss_one (ps_ret pe_bl))
 pss_nil)))
 (pss_one (ps_if (pt_not (pt_val (pe_call (ok_loutcome T) (hr.mono (by decide)) (by rfl) T.g_law_outcome T.F_law_outcome.kp (b_law_outcome T) .nil pass0 (pa_cons (pe_ix ix_list (pv 12) (pe_un un_neg pe_int) (fun _ _ => rfl)) (pa_cons (pe_call (ok_ldue T) (hr.mono (by decide)) (by rfl) T.g_law_due T.F_law_due.kp (b_law_due T) .nil pass0 (pa_cons (pv 7) (pa_cons (pv 9) (pa_cons (pv 5) (pa_cons (pv 2) pa_nil))))) pa_nil)))))
 (pss_one (ps_ret pe_bl))
 pss_nil))))))))))))))
 (pss_one (ps_ret pe_bl)))))))), ?_⟩
    have two : 2 ≤ sizeLine := by decide
    have three : 3 ≤ sizeLine := by decide
    have p2 : (0 : Int) < 2 := by decide
    have p3 : (0 : Int) < 3 := by decide
    have p29 : (0 : Int) < 10 ^ 29 := by decide
    refine ⟨rfl, fun H1 N s1 nN hN => ?_⟩
    refine ⟨_, rfl, a, ns, 1, rfl, s1.seq hS, hlen, .inl ⟨_, rfl, _, _, rfl, rfl, ⟨by decide, by decide, by decide⟩, _, _, rfl, rfl, p29, _, _, rfl, rfl, ?_⟩⟩
    obtain ⟨s, es, hs1, hs2⟩ : ∃ s : Int, (fun i j : Int => V.int (i + j)) 1 (ns.getD 1 0 % 10 ^ Int.toNat 29) = V.int s ∧ 1 ≤ s ∧ s ≤ 10 ^ 29 := by
      have m0 := Int.emod_nonneg (ns.getD 1 0) (Int.ne_of_gt p29)
      have m1 := Int.emod_lt_of_pos (ns.getD 1 0) p29
      exact ⟨1 + ns.getD 1 0 % 10 ^ 29, rfl, by omega, by omega⟩
    rw [es]
    refine ⟨_, rfl, a, ns, 2, rfl, s1.seq hS, hlen, _, rfl, fun H2 W n1 n2 s2 nW hW ok1 ok2 ne => ⟨W, _, _, .str n1, rfl, rfl, SqL.of hW, rfl, ?_⟩⟩
    have s12 := s1.trans s2
    refine ⟨two, fun W4 nW4 => ?_⟩
    have y4 := same_new (o := .lst [.str "now", .str "after"]) (Same.refl H2) nW4
    have h4 : (upd H2 W4 (.lst [.str "now", .str "after"])) W4 = some (.lst [.str "now", .str "after"]) := upd_same
    generalize upd H2 W4 (.lst [.str "now", .str "after"]) = H4 at y4 h4 ⊢
    obtain ⟨r, er, hr2⟩ : ∃ r : Str, atI [V.str "now", V.str "after"] (ns.getD 0 0 % 2) = some (.str r) ∧ isEnds (.str r) := by
      have m0 := Int.emod_nonneg (ns.getD 0 0) (Int.ne_of_gt p2)
      have m1 := Int.emod_lt_of_pos (ns.getD 0 0) p2
      have : ns.getD 0 0 % 2 = 0 ∨ ns.getD 0 0 % 2 = 1 := by omega
      rcases this with e | e
      · exact ⟨"now", by rw [e]; rfl, .inl rfl⟩
      · exact ⟨"after", by rw [e]; rfl, .inr rfl⟩
    have s14 := s12.trans y4
    refine ⟨_, rfl, a, ns, 0, rfl, s14.seq hS, hlen, .inl ⟨_, rfl, _, _, rfl, rfl, p2, W4, _, _, .str r, rfl, rfl, SqL.of h4, er, ?_⟩⟩
    refine ⟨three, fun W5 nW5 => ?_⟩
    have y5 := same_new (o := .lst [.int 1, .int 2, .int 20]) (Same.refl H4) nW5
    have h5 : (upd H4 W5 (.lst [.int 1, .int 2, .int 20])) W5 = some (.lst [.int 1, .int 2, .int 20]) := upd_same
    generalize upd H4 W5 (.lst [.int 1, .int 2, .int 20]) = H5 at y5 h5 ⊢
    obtain ⟨k, ek, hk1, hk20⟩ : ∃ k : Nat, atI [V.int 1, V.int 2, V.int 20] (ns.getD 0 0 / 2 % 3) = some (.int (k : Int)) ∧ 1 ≤ k ∧ k ≤ 20 := by
      have m0 := Int.emod_nonneg (ns.getD 0 0 / 2) (Int.ne_of_gt p3)
      have m1 := Int.emod_lt_of_pos (ns.getD 0 0 / 2) p3
      have : ns.getD 0 0 / 2 % 3 = 0 ∨ ns.getD 0 0 / 2 % 3 = 1 ∨ ns.getD 0 0 / 2 % 3 = 2 := by omega
      rcases this with e | e | e
      · exact ⟨1, by rw [e]; rfl, by decide, by decide⟩
      · exact ⟨2, by rw [e]; rfl, by decide, by decide⟩
      · exact ⟨20, by rw [e]; rfl, by decide, by decide⟩
    have s15 := s14.trans y5
    refine ⟨_, rfl, a, ns, 0, rfl, s15.seq hS, hlen, _, _, rfl, rfl, ⟨by decide, by decide⟩, .inl ⟨_, rfl, _, _, rfl, rfl, p3, W5, _, _, .int (k : Int), rfl, rfl, SqL.of h5, ek, ?_⟩⟩
    refine ⟨_, rfl, a, ns, 3, rfl, s15.seq hS, hlen, _, 14, 60, rfl, by decide, by decide, by decide, fun H6 R ds s6 nR hR hl hd => ?_⟩
    have hN6 := s6 _ _ (y5 _ _ (y4 _ _ (s2 _ _ hN)))
    have hr3 := hr2
    refine ⟨fun τ H' => True, ?_, fun τ H' _ => kk H'⟩
    refine ⟨14, rfl, by decide, by decide, for_range (lo := 0) (n := 14) (fun i τ H' => ∃ (v7 v8 v9 v10 v11 v12 v13 : Option V), τ = [some (.ref a), some (.ref N), some (.int s), some (.str n1), some (.str r), some (.int (k : Int)), some (.ref R), v7, v8, v9, v10, v11, v12, v13] ∧ Same H6 H') ⟨none, none, none, none, none, none, none, rfl, Same.refl _⟩ ?_ (fun τ H' _ => trivial)⟩
    rintro i τ H7 hi ⟨v7, v8, v9, v10, v11, v12, v13, rfl, s7⟩
    have hN7 := s7 _ _ hN6
    have hR7 := s7 _ _ hR
    have dat : atI (ds.map V.int) (0 + (i : Int)) = some (.int (ds.getD i 0)) := by
      rw [Int.zero_add]
      exact li_at (by omega)
    generalize ds.getD i 0 = dv at dat
    refine ⟨_, rfl, _, rfl, N, _, _, .str (nmE i), rfl, rfl, SqL.of hN7, by rw [Int.zero_add]; exact nm_at hi, ?_⟩
    refine fun t nt => ⟨two, fun W6 nW6 => ?_⟩
    have pick : ∀ (u v : Str) (c : Int), ∃ x : Str, atI [V.str u, V.str v] (c % 2) = some (.str x) ∧ (x = u ∨ x = v) := by
      intro u v c
      have m0 := Int.emod_nonneg c (Int.ne_of_gt p2)
      have m1 := Int.emod_lt_of_pos c p2
      have : c % 2 = 0 ∨ c % 2 = 1 := by omega
      rcases this with e | e
      · exact ⟨u, by rw [e]; rfl, .inl rfl⟩
      · exact ⟨v, by rw [e]; rfl, .inr rfl⟩
    obtain ⟨x, ex, hx⟩ := pick "skip" "abort" dv
    obtain ⟨y, ey, hy⟩ := pick "skip" "abort" (dv / 2)
    obtain ⟨z, ez, hz⟩ := pick "put" "abort" (dv / 4)
    have q1 := same_new (o := .dK []) (Same.refl H7) nt
    have g1 : (upd H7 t (.dK [])) t = some (.dK []) := upd_same
    have q2 := same_new (o := .lst [.str "skip", .str "abort"]) q1 nW6
    have dw : ("write late" : Str) ≠ "write free passed" ∧ ("write late" : Str) ≠ "write late passed" ∧ ("write free passed" : Str) ≠ "write late passed" := by decide +kernel
    obtain ⟨dw1, dw2, dw3⟩ := dw
    refine ⟨_, rfl, _, rfl, R, _, _, .int dv, rfl, rfl, SqL.of (q2 _ _ hR7), dat, _, _, rfl, rfl, p2, W6, _, _, .str x, rfl, rfl, SqL.of upd_same, ex, kp nW6 g1, [(Sum.inr "write late", .str x), (Sum.inr "write free passed", .str "put")], rfl, by show 2 ≤ 15; decide, ?_⟩
    rw [mk2 (fun e => dw1 (Sum.inr.inj e))]
    have e0 : [((Sum.inr "write late" : Key), V.str x), (Sum.inr "write free passed", V.str "put")] = tabS ["write late", "write free passed"] (BK.put (fun _ => ("put" : Str)) "write late" x) := by
      show _ = [((Sum.inr "write late" : Key), V.str (BK.put (fun _ => ("put" : Str)) "write late" x "write late")), (Sum.inr "write free passed", V.str (BK.put (fun _ => ("put" : Str)) "write late" x "write free passed"))]
      rw [put_same, put_ne dw1.symm]
    rw [e0]
    have ht8 : (upd (upd (upd H7 t (.dK [])) W6 (.lst [.str "skip", .str "abort"])) t (.dK (tabS ["write late", "write free passed"] (BK.put (fun _ => ("put" : Str)) "write late" x)))) t = some (.dK (tabS ["write late", "write free passed"] (BK.put (fun _ => ("put" : Str)) "write late" x))) := upd_same
    have s8 : Same H7 (upd (upd (upd H7 t (.dK [])) W6 (.lst [.str "skip", .str "abort"])) t (.dK (tabS ["write late", "write free passed"] (BK.put (fun _ => ("put" : Str)) "write late" x)))) := fun c o w => by rw [upd_ne (ne_of_none w nt)]; exact q2 _ _ w
    generalize upd (upd (upd H7 t (.dK [])) W6 (.lst [.str "skip", .str "abort"])) t (.dK (tabS ["write late", "write free passed"] (BK.put (fun _ => ("put" : Str)) "write late" x))) = H8 at ht8 s8 ⊢
    refine ⟨two, fun W7 nW7 => ?_⟩
    have q3 := same_new (o := .lst [.str "skip", .str "abort"]) (Same.refl H8) nW7
    refine ⟨_, rfl, _, rfl, R, _, _, .int dv, rfl, rfl, SqL.of (q3 _ _ (s8 _ _ hR7)), dat, _, _, rfl, rfl, ⟨by decide, by decide⟩, .inl ⟨_, rfl, _, _, rfl, rfl, p2, W7, _, _, .str y, rfl, rfl, SqL.of upd_same, ey, _, rfl, t, _, rfl, DPut.k (k := Sum.inr "write late passed") (q3 _ _ ht8) (by rw [tab_len]; exact small1000 (by decide)), ?_⟩⟩
    have n3 : ("write late passed" : Str) ∉ (["write late", "write free passed"] : List Str) := by decide +kernel
    rw [put_new (g := V.str) n3]
    have f1w : BK.put (BK.put (fun _ => ("put" : Str)) "write late" x) "write late passed" y "write free passed" = "put" := by rw [put_ne dw3, put_ne dw1.symm]
    have T1 : TbOk i L1 (BK.put (BK.put (fun _ => ("put" : Str)) "write late" x) "write late passed" y) := by
      refine ⟨l1_ent.2, fun _ h => h, fun e he => ⟨l1_ent.1 e he, ?_⟩, fun _ _ => f1w⟩
      have c1 : ∀ w : Str, (w = "skip" ∨ w = "abort") → w ∈ chs "write late" ∧ w ∈ chs "write late passed" := by
        have c2 : ("skip" : Str) ∈ chs "write late" ∧ ("skip" : Str) ∈ chs "write late passed" ∧ ("abort" : Str) ∈ chs "write late" ∧ ("abort" : Str) ∈ chs "write late passed" := by decide +kernel
        rintro w (rfl | rfl)
        · exact ⟨c2.1, c2.2.1⟩
        · exact ⟨c2.2.2.1, c2.2.2.2⟩
      have : e = "write late" ∨ e = "write free passed" ∨ e = "write late passed" := by simpa using he
      rcases this with rfl | rfl | rfl
      · rw [put_ne dw2, put_same]; exact (c1 x hx).1
      · rw [f1w]; decide +kernel
      · rw [put_same]; exact (c1 y hy).2
    have s9 : Same H7 (upd (upd H8 W7 (.lst [.str "skip", .str "abort"])) t (.dK (tabS ((["write late", "write free passed"] : List Str) ++ (["write late passed"] : List Str)) (BK.put (BK.put (fun _ => ("put" : Str)) "write late" x) "write late passed" y)))) := fun c o w => by rw [upd_ne (ne_of_none w nt)]; exact q3 _ _ (s8 _ _ w)
    have ht9 : (upd (upd H8 W7 (.lst [.str "skip", .str "abort"])) t (.dK (tabS ((["write late", "write free passed"] : List Str) ++ (["write late passed"] : List Str)) (BK.put (BK.put (fun _ => ("put" : Str)) "write late" x) "write late passed" y)))) t = some (.dK (tabS L1 (BK.put (BK.put (fun _ => ("put" : Str)) "write late" x) "write late passed" y))) := upd_same
    generalize upd (upd H8 W7 (.lst [.str "skip", .str "abort"])) t (.dK (tabS ((["write late", "write free passed"] : List Str) ++ (["write late passed"] : List Str)) (BK.put (BK.put (fun _ => ("put" : Str)) "write late" x) "write late passed" y))) = H9 at s9 ht9 ⊢
    generalize BK.put (BK.put (fun _ => ("put" : Str)) "write late" x) "write late passed" y = f1 at ht9 T1 f1w
    clear ht8 s8 q3 q1 q2 g1
    refine ⟨fun τ H' => ∃ f, τ = [some (.ref a), some (.ref N), some (.int s), some (.str n1), some (.str r), some (.int (k : Int)), some (.ref R), some (.int (0 + (i : Int))), some (.str (nmE i)), some (.ref t), v10, v11, v12, v13] ∧ Same H7 H' ∧ H' t = some (.dK (tabS L1 f)) ∧ TbOk i L1 f, ?_, ?_⟩
    · refine ⟨_, rfl, rfl, _, rfl, ?_⟩
      by_cases c12 : i = 12
      · rw [decide_eq_true (show V.int (0 + (i : Int)) = V.int 12 by rw [c12]; rfl)]
        refine iteT ⟨two, fun W8 nW8 => ?_⟩
        have q4 := same_new (o := .lst [.str "put", .str "abort"]) (Same.refl H9) nW8
        refine ⟨_, rfl, _, rfl, R, _, _, .int dv, rfl, rfl, SqL.of (q4 _ _ (s9 _ _ hR7)), dat, _, _, rfl, rfl, ⟨by decide, by decide⟩, .inl ⟨_, rfl, _, _, rfl, rfl, p2, W8, _, _, .str z, rfl, rfl, SqL.of upd_same, ez, _, rfl, t, _, rfl, DPut.k (k := Sum.inr "write free passed") (q4 _ _ ht9) (by rw [tab_len]; exact small1000 (by decide)), ?_⟩⟩
        have n4 : ("write free passed" : Str) ∈ L1 := by decide +kernel
        rw [put_in (g := V.str) n4]
        refine ⟨_, rfl, fun c o w => by rw [upd_ne (ne_of_none w nt)]; exact q4 _ _ (s9 _ _ w), upd_same, l1_ent.2, fun _ h => h, fun e he => ⟨l1_ent.1 e he, ?_⟩, fun _ n => absurd c12 n⟩
        by_cases ce : e = "write free passed"
        · rw [ce, put_same]
          rcases hz with rfl | rfl
          · decide +kernel
          · decide +kernel
        · rw [put_ne ce]; exact (T1.ok e he).2
      · rw [decide_eq_false (show V.int (0 + (i : Int)) ≠ V.int 12 from fun e => c12 (by have := V.int.inj e; omega))]
        exact iteF ⟨f1, rfl, s9, ht9, T1⟩
    rintro τ H10 ⟨f2, rfl, s10, ht10, T2⟩
    refine ⟨_, rfl, _, rfl, fun H11 P s11 nP hP => ⟨P, rfl, ⟨_, SqL.of hP⟩, ?_⟩⟩
    have Pt : P ≠ t := fun e => by rw [e, ht10] at nP; cases nP
    refine for_list (K := K) (a := P) (xs := (chs (nmE i)).map V.str) (fun j τ H' => ∃ (L : List Str) (f : Str → Str) (v10 v11 v12 v13 : Option V), τ = [some (.ref a), some (.ref N), some (.int s), some (.str n1), some (.str r), some (.int (k : Int)), some (.ref R), some (.int (0 + (i : Int))), some (.str (nmE i)), some (.ref t), v10, v11, v12, v13] ∧ Same H7 H' ∧ H' t = some (.dK (tabS L f)) ∧ TbOk i L f ∧ H' P = some (.lst ((chs (nmE i)).map V.str)))
      ⟨L1, f2, _, _, _, _, rfl, s10.trans s11, s11 _ _ ht10, T2, hP⟩ (fun j τ H' _ ⟨_, _, _, _, _, _, _, _, _, _, z⟩ => SqL.of z) ?_ (fun τ H' ⟨_, _, v10, v11, v12, v13, e, h, _⟩ => ⟨_, _, _, v10, v11, v12, v13, e, s7.trans h⟩)
    rintro j x τ H12 hx ⟨L, f, v10, v11, v12, v13, rfl, s12', ht12, TB, hP12⟩
    rw [List.getElem?_map] at hx
    cases hgq : (chs (nmE i))[j]? with
    | none => rw [hgq] at hx; cases hx
    | some g =>
    rw [hgq] at hx
    cases hx
    have hg : g ∈ chs (nmE i) := List.mem_of_getElem? hgq
    obtain ⟨L', ep, TB', hm⟩ := TB.put hi hg
    have lL := TB.len
    refine ⟨_, rfl, _, rfl, _, rfl, t, _, rfl, DPut.k (k := Sum.inr (nmE i)) ht12 (by rw [tab_len]; exact small1000 (by omega)), ?_⟩
    rw [ep]
    have fg : BK.put f (nmE i) g (nmE i) = g := put_same
    generalize BK.put f (nmE i) g = f' at TB' fg ⊢
    have ht13 : (upd H12 t (.dK (tabS L' f'))) t = some (.dK (tabS L' f')) := upd_same
    have s13 : Same H7 (upd H12 t (.dK (tabS L' f'))) := fun c o w => by rw [upd_ne (ne_of_none w nt)]; exact s12' _ _ w
    have hP13 : (upd H12 t (.dK (tabS L' f'))) P = some (.lst ((chs (nmE i)).map V.str)) := by rw [upd_ne Pt]; exact hP12
    generalize upd H12 t (.dK (tabS L' f')) = H13 at ht13 s13 hP13 ⊢
    refine ⟨rfl, fun H14 Wy s14' nWy hWy => ?_⟩
    have txat : atI (txL.map V.str) (0 + (i : Int)) = some (.str (txL.getD i "")) := by
      rw [Int.zero_add]
      have hl : i < txL.length := hi
      refine atI_nat ?_
      rw [List.getElem?_map, List.getElem?_eq_getElem hl, List.getD_eq_getElem?_getD, List.getElem?_eq_getElem hl]
      rfl
    refine ⟨_, rfl, Wy, _, _, .str (txL.getD i ""), rfl, rfl, SqL.of hWy, txat, _, rfl, _, rfl, i, s, n1, rfl, hi, hs1, fun H15 q ws s15' nq hq RA => ?_⟩
    have s715 := (s13.trans s14').trans s15'
    have ht15 := (s14'.trans s15') _ _ ht13
    have hP15 := (s14'.trans s15') _ _ hP13
    have way := sc_out (B := ⟨bkF L' f', r, k⟩) TB'.all hr3 hk1 hi (fun a b => by
      show bkF L' f' "write free passed" = "put"
      unfold bkF
      rw [if_pos (TB'.sub _ (by decide +kernel))]
      exact TB'.wf a b) hs1 (nm := n1)
    have prts := run_parts hi hs1 hs2 ok1
    have wl := List.all_eq_true.mp way_len i (List.mem_range.mpr hi)
    simp only [Bool.and_eq_true, decide_eq_true_eq] at wl
    have lr := F2.len RA
    rw [List.length_map] at lr
    have kd : ∀ y ∈ (wayL.getD i []).map (scX s n1), KdOk y := fun y hy => (prts y hy).2.2.1
    have og := out_good (B := ⟨bkF L' f', r, k⟩) TB'.all kd (by rw [List.length_map]; omega) ((wayL.getD i []).length - 1)
    have eb : bkF L' f' (nmE i) = g := by unfold bkF; rw [if_pos hm]; exact fg
    have ea : bkF L' f' (aftE i) = f' (aftE i) := by unfold bkF; rw [if_pos (TB'.sub _ (aft_l1 i (List.mem_range.mpr hi)))]
    obtain ⟨way1, way2⟩ := way
    rw [way2] at og
    simp only [eb, ea] at way1 way2 og
    have ek1 : decide (k = 1) = decide ((k : Int) = 1) := by
      by_cases c : k = 1
      · rw [decide_eq_true c, decide_eq_true (by omega)]
      · rw [decide_eq_false c, decide_eq_false (by omega)]
    have lx : ((wayL.getD i []).map (scX s n1)).length = (wayL.getD i []).length := List.length_map ..
    generalize (wayL.getD i []).length = ln at way1 way2 og wl lr lx
    refine ⟨_, rfl, _, rfl, _, rfl, rfl, rfl, fun b dx nb ndx _ => mk_book (gv := L'.map fun e => (e, V.str (f' e))) (.inr ⟨t, rfl, by rw [← tabS_prs]; exact ht15⟩) hr3 (keepV_ok hk1 hk20) TB'.pairs nb ndx fun H16 d s16 nd B => ?_⟩
    have B := Bk.congr B (f' := bkF L' f') fun e he => by rw [fill_tab TB'.nd]; rfl
    have RA16 := RA.same s16
    have hq16 := s16 _ _ hq
    have pg := parts_good RA16 prts
    refine ⟨rfl, _, rfl, b, dx, d, bkF L' f', r, k, q, ws, ((wayL.getD i []).map (scX s n1)).map fun _ => true, (wayL.getD i []).map (scX s n1), rfl, B, TB'.all, hk1, hk20, ⟨SqL.of hq16, pg, by omega, fun _ => ⟨RA16, kd⟩⟩, fun _ H17 p s17 np OA => ?_, fun m hm' => ?_⟩
    · obtain ⟨ts, hts, FT⟩ := OA
      rw [lx] at FT
      have s717 := (s715.trans s16).trans s17
      have ht17 := (s16.trans s17) _ _ ht15
      have hP17 := (s16.trans s17) _ _ hP15
      have hq17 := s17 _ _ hq16
      have lt := F2.len FT
      rw [List.length_range] at lt
      refine ⟨_, rfl, _, _, _, _, true, rfl, ClsV.ty _, .base (.lst hts), kit_ty (by decide +kernel), _, rfl, iteF ?_⟩
      refine ⟨_, rfl, p, _, rfl, .inl (SqL.of hts), _, rfl, q, _, rfl, .inl (SqL.of hq17), rfl, _, rfl, ?_⟩
      rw [decide_eq_true (show V.int ((ts.map V.ref).length : Int) = V.int (ws.length : Int) by rw [List.length_map, lt, lr])]
      refine iteF ?_
      refine ⟨fun τ H' => ∃ v13, τ = [some (.ref a), some (.ref N), some (.int s), some (.str n1), some (.str r), some (.int (k : Int)), some (.ref R), some (.int (0 + (i : Int))), some (.str (nmE i)), some (.ref t), some (.str g), some (.ref q), some (.ref p), v13] ∧ Same H17 H', ?_, ?_⟩
      · refine ⟨_, rfl, q, _, rfl, .inl (SqL.of hq17), _, _, rfl, rfl, ((ln - 1 : Nat) : Int), by rw [lr, Int.ofNat_sub (show 1 ≤ ln by omega)]; rfl, by omega, by omega, for_range (lo := 0) (n := ln - 1) (fun j τ H' => ∃ v13, τ = [some (.ref a), some (.ref N), some (.int s), some (.str n1), some (.str r), some (.int (k : Int)), some (.ref R), some (.int (0 + (i : Int))), some (.str (nmE i)), some (.ref t), some (.str g), some (.ref q), some (.ref p), v13] ∧ Same H17 H') ⟨_, rfl, Same.refl _⟩ ?_ ?_⟩
        rotate_left
        · exact fun τ H' z => z
        rintro m τ H18 hm2 ⟨v13, rfl, s18⟩
        have hml : m < ts.length := by omega
        have hme : ts[m]? = some ts[m] := List.getElem?_eq_getElem hml
        obtain ⟨m', hm', OO, _⟩ := F2.at FT hme
        have em : m' = m := by
          rw [List.getElem?_range (by omega)] at hm'
          exact (Option.some.inj hm').symm
        subst em
        obtain ⟨mm, vv, ff, o1, o2, o3, o4⟩ := OO
        have tat : atI (ts.map V.ref) (0 + (m' : Int)) = some (.ref ts[m']) := by rw [Int.zero_add]; exact atI_nat (by rw [List.getElem?_map, hme]; rfl)
        refine ⟨_, rfl, _, rfl, p, _, _, .ref ts[m'], rfl, rfl, SqL.of (s18 _ _ hts), tat, ts[m'], _, _, _, rfl, rfl, SqT.of (s18 _ _ o1), rfl, three, fun W nW => ⟨W, _, rfl, .inl (SqL.of upd_same), rfl, rfl, _, rfl, ?_⟩⟩
        have wd := way1 m' (by omega)
        have e4 : inV (V.str (outN ⟨bkF L' f', r, k⟩ ((wayL.getD i []).map (scX s n1)) m').word) [.str "read", .str "put", .str "commit"] = true := by
          rw [show inV (V.str (outN ⟨bkF L' f', r, k⟩ ((wayL.getD i []).map (scX s n1)) m').word) [.str "read", .str "put", .str "commit"] = decide ((outN ⟨bkF L' f', r, k⟩ ((wayL.getD i []).map (scX s n1)) m').word ∈ (["read", "put", "commit"] : List Str)) from inV_str _ ["read", "put", "commit"]]
          exact wd
        rw [if_pos rfl, e4]
        exact iteF ⟨_, rfl, s18.trans (same_new (Same.refl _) nW)⟩
      rintro τ H18 ⟨v13, rfl, s18⟩
      have hl1 : ln - 1 < ts.length := by omega
      have hle : ts[ln - 1]? = some ts[ln - 1] := List.getElem?_eq_getElem hl1
      obtain ⟨m', hm', OO, _⟩ := F2.at FT hle
      have em : m' = ln - 1 := by
        rw [List.getElem?_range (by omega)] at hm'
        exact (Option.some.inj hm').symm
      subst em
      rw [way2] at OO
      have OO18 := OO.same s18
      have last : atI (ts.map V.ref) (-1) = some (.ref ts[ln - 1]) := by
        have h0 : ts ≠ [] := fun z => by rw [z] at lt; simp at lt; omega
        have h1 := (List.dropLast_concat_getLast h0).symm
        have h2 : ts.getLast h0 = ts[ln - 1] := by rw [List.getLast_eq_getElem]; congr 1; omega
        rw [h2] at h1
        have e := congrArg (List.map V.ref) h1
        rw [List.map_append] at e
        rw [e]
        exact atI_last _ _
      have s718 := s717.trans s18
      have hP18 := s18 _ _ hP17
      have ht18 := s18 _ _ ht17
      have gE : valV (tabS L' f') (Sum.inr (nmE i)) = some (.str g) := (TbOk.val hm).trans (by rw [fg])
      have aE := TbOk.val (f := f') (TB'.sub _ (aft_l1 i (List.mem_range.mpr hi)))
      have fl : (scO s (dueO i g (f' (aftE i)) (decide (k = 1)))).fallen.length ≤ 900 := by
        show ((dueO i g (f' (aftE i)) (decide (k = 1))).fallen.map fun t => s * t).length ≤ 900
        rw [List.length_map]
        exact Nat.le_trans dueA_fal (by decide)
      refine ⟨_, rfl, _, rfl, p, _, _, .ref ts[ln - 1], rfl, rfl, SqL.of (s18 _ _ hts), last, _, rfl, _, rfl, _, rfl, _, rfl, i, t, (k : Int), s, tabS L' f', g, f' (aftE i), congrArg (fun z : Int => [V.int z, .ref t, .int (k : Int), .int s]) (Int.zero_add (i : Int)), hi, ht18, gE, aE, hg, hs1, fun H19 dq s19 nd' OD => ?_⟩
      rw [← ek1] at OD
      exact ⟨ts[ln - 1], dq, _, rfl, OO18.same s19, OD, og, fl, _, rfl, iteF ⟨L', f', _, _, _, _, rfl, s718.trans s19, s19 _ _ ht18, TB', s19 _ _ hP18⟩⟩
    · rw [List.getElem?_map] at hm'
      cases hz' : ((wayL.getD i []).map (scX s n1))[m]? with
      | none => rw [hz'] at hm'; cases hm'
      | some _ => rw [hz'] at hm'; cases hm'
end
end K11

namespace K11
open PySem L2
theorem walk {l : PySem.W.OpenLaw} {q : Program} {loose : List Str} {XP : (Str → Option Value) → Heap → Prop} {YP : World → Heap → Prop} {d : DefRec} {K : Params → PySem.W.Frag} (hn : l.most = some 63) (hdf : d.params.defaults = [])
    (hY : ∀ (w : World) (h : Heap), YP w h → (K w.params).In h)
    (F : ∀ (w : World) (mg : Str → Option Value) (fa : Addr) (h : Heap), (K w.params).In h → h.Ns mainGlobals mg → mg d.name = some (.ref fa) →
      ∃ fd : FuncData, (∀ (s : Shared) (u : Value), BindsTo s fd ⟨[u], []⟩ [("_law_script", u)]) ∧ ∀ base : Heap, (K w.params).In base → base.Ns mainGlobals mg → FnOk l.prog w (K w.params) mg base CX0 30 fa fd ["_law_script"] (spLaw (K w.params))) :
    PySem.W.WalkO q loose XP YP l.row.toRowW d [] (fun f vs => PySem.call f vs) :=
  L2.walk_of (n := 63) (k := 30) (x := "_law_script") (CX := fun _ => CX0) (sp := fun w => spLaw (K w.params)) hn (by decide) hdf ⟨rfl, by decide, by decide⟩ hY F (fun _ _ a ns hl _ hS => ⟨a, ns, rfl, hS, hl, fun _ => rfl⟩) fun _ _ _ _ _ z => z
theorem law_fd {w : World} {K : PySem.W.Frag} {mg : Str → Option Value} (T : Txt w K mg) : ∀ (s : Shared) (u : Value), BindsTo s T.d_law ⟨[u], []⟩ [("_law_script", u)] := by
  obtain ⟨⟨oc, od, kV, doc, pm, an, cdv, ct, osl, e, lk, hcd⟩, _⟩ := T.F_law
  rw [e]
  exact fun s u => .of_eq rfl
theorem fin {w : World} {K : PySem.W.Frag} {mg : Str → Option Value} {fa : Addr} (A : ∃ T : Txt w K mg, T.f_law = fa) : ∃ fd : FuncData, (∀ (s : Shared) (u : Value), BindsTo s fd ⟨[u], []⟩ [("_law_script", u)]) ∧ ∀ base : Heap, K.In base → base.Ns mainGlobals mg →
    FnOk PySem.Challenge.rw_stamprules_k11_what_an_answer_does.prog w K mg base CX0 30 fa fd ["_law_script"] (spLaw K) := by
  obtain ⟨T, e⟩ := A
  subst e
  exact ⟨T.d_law, law_fd T, fun base _ _ => ok_law T⟩
end K11
namespace K11
open PySem PySem.W PySem.Calls PyProof.Rows
abbrev hdR : OpenRow := (PySem.W.OpenLaw.row PySem.Challenge.rw_stamprules_k11_what_an_answer_does)
local macro_rules
  | `(tactic| o_head $_) => `(tactic| assumption)
set_option maxHeartbeats 0 in
theorem hd_k (h : hdR.Holds) : hdR.Holds := by k_head
abbrev hdQ : Program := view hdR.prog [80]
def hdN0 : List PySem.Str := ["_wall", "StampError", "BadEntry", "BadAnswer", "BadSetting", "BadStep", "GREATEST", "is_stamp", "place", "Item", "State", "first_state", "item_of", "ascending", "taken", "committed", "settled", "aborted", "without", "falling", "released", "requested", "asked", "entry_met", "fixed_answer", "older_values", "value_read", "binds", "with_bond", "with_reader"]
def hdN1 : List PySem.Str := ["with_item", "DIGITS", "SIGNS", "LONGEST_NAME", "MOST_DIGITS", "LET_BY", "WORDS", "play", "lets_by", "traced", "check_run", "is_step", "is_name", "steps_of", "is_numeral", "WAYS", "MOST_COMMITS", "parting_runs", "parting_run", "shortest_first", "followed", "ways", "deep", "ENTRIES", "ANSWERS", "LEVELS", "MOST_KEPT", "answers_at", "level_of", "check_answer"]
def hdN2 : List PySem.Str := ["is_keep", "met_answer", "Book", "_law_cell", "_law_row", "_law_entries", "_law_choices", "_law_names", "_law_ints", "_law_outcome", "_law_ways", "_law_scaled", "_law_due"]
def hdN : List PySem.Str := hdN0 ++ hdN1 ++ hdN2
def hdA0 : List Addr := [2, 3, 15, 17, 18, 20, 21, 22, 29, 30, 31, 32, 35, 38, 43, 44, 46, 47, 49, 50, 51, 52, 53, 56, 59, 64, 65, 67, 68, 70, 71, 72, 73, 74, 77, 80, 85, 86, 88, 89]
def hdA1 : List Addr := [91, 92, 93, 94, 95, 98, 101, 106, 107, 109, 110, 112, 113, 114, 115, 116, 119, 120, 122, 123, 125, 126, 127, 129, 130, 132, 133, 141, 143, 144, 146, 147, 148, 149, 150, 151, 152, 162, 164, 165]
def hdA2 : List Addr := [167, 168, 169, 170, 171, 172, 173, 176, 178, 179, 181, 182, 183, 185, 186, 188, 189, 190, 193, 194, 195, 197, 198, 200, 201, 202, 205, 206, 207, 209, 210, 212, 213, 214, 216, 217, 219, 220, 221, 224]
def hdA3 : List Addr := [225, 226, 228, 229, 231, 232, 233, 235, 236, 238, 239, 240, 242, 243, 245, 246, 247, 249, 250, 252, 253, 254, 256, 257, 259, 260, 261, 263, 264, 266, 267, 268, 271, 272, 273, 275, 276, 278, 279, 280]
def hdA4 : List Addr := [282, 283, 285, 286, 287, 289, 290, 292, 293, 294, 296, 297, 299, 300, 301, 303, 304, 306, 307, 308, 309, 310, 313, 314, 315, 318, 319, 320, 322, 323, 325, 326, 327, 329, 330, 332, 333, 334, 336, 337]
def hdA5 : List Addr := [339, 340, 341, 344, 345, 346, 347, 349, 350, 352, 353, 354, 357, 358, 359, 360, 361, 362, 363, 364, 365, 366, 367, 368, 369, 370, 371, 372, 373, 374, 376, 377, 379, 380, 381, 383, 384, 386, 387, 388]
def hdA6 : List Addr := [391, 392, 393, 396, 397, 398, 401, 402, 403, 405, 406, 408, 409, 410, 411, 412, 413, 414, 415, 416, 417, 418, 419, 420, 421, 422, 423, 424, 425, 426, 427, 429, 430, 432, 433, 434, 436, 437, 439, 440]
def hdA7 : List Addr := [441, 443, 444, 446, 447, 448, 450, 451, 453, 454, 455, 457, 458, 460, 461, 469, 470, 471, 474, 475, 476, 478, 479, 481, 482, 483, 484, 486, 487, 489, 490, 491, 492, 494, 495, 497, 498, 499, 501, 502]
def hdA8 : List Addr := [504, 505, 506, 508, 509, 511, 512, 513, 515, 516, 518, 519, 520, 521, 523, 524, 526, 527, 528, 530, 531, 533, 534, 535, 537, 538, 540, 541, 542, 544, 545, 547, 548, 549, 551, 552, 554, 555, 556, 557]
def hdA9 : List Addr := [558, 559, 560, 563, 565, 566, 568, 569, 570, 572, 573, 575, 576, 577, 579, 580, 582, 583, 584, 586, 587, 589, 590, 591, 594, 595, 596, 598, 599, 601, 602, 603, 605, 606, 608, 609, 610, 612, 613, 615]
def hdA10 : List Addr := [616, 617, 619, 620, 622, 623, 624, 626, 627, 629, 630, 631, 633, 634, 636, 637]
def hdA : List Addr := hdA0 ++ (hdA1 ++ (hdA2 ++ (hdA3 ++ (hdA4 ++ (hdA5 ++ (hdA6 ++ (hdA7 ++ (hdA8 ++ (hdA9 ++ (hdA10
))))))))))
theorem hdE (P : Params) : hdA = (hd_k.heap_1 P).map (·.1) := by kernel_rfl
noncomputable abbrev hdH : Hook := kHook hd_k.heap_1 hdA hdE
noncomputable def hdO (s : SharedT) : hdH.α := List.map (HandSHeadRun.getT s) hdA
theorem hd_obs (s : SharedT) : hdO s = hdH.obs s.abs := by
  show hdA.map (HandSHeadRun.getT s) = hdA.map s.abs.heap.get?
  exact congrFun (congrArg List.map (funext fun a => HandSHeadRun.getT_eq s a)) hdA
theorem hd_f (w : World) : HandSHeadRun.RunEq hdR hdQ hdH hdO 12000 hdN (w.withFollow "special-get-raises" false) := by
  intro os
  kernel_rfl
theorem hd_t (w : World) : HandSHeadRun.RunEq hdR hdQ hdH hdO 12000 hdN (w.withFollow "special-get-raises" true) := by
  intro os
  kernel_rfl
end K11
open PySem PySem.W PyProof.Rows
set_option maxRecDepth 100000 in
set_option maxHeartbeats 0 in
theorem PySem.Challenge.cw_stamprules_k11_what_an_answer_does_holds : PySem.Challenge.rw_stamprules_k11_what_an_answer_does.Holds := by
  w_on; o_law; refine HandSHeadRun.head_any (r := K11.hdR) (q := K11.hdQ) (H := K11.hdH) (ob := K11.hdO) (M := 12000) (loose := K11.hdN) (kwd := []) K11.hd_obs (by kernel_rfl) (fun s => by kernel_rfl) (byRow2 "special-get-raises" (P := fun w => HandSHeadRun.RunEq K11.hdR K11.hdQ K11.hdH K11.hdO 12000 K11.hdN w) K11.hd_f K11.hd_t) (by rfl) (by rfl) (by rfl) (by rfl) (by first | assumption | decide +kernel) (by decide +kernel) ⟨rfl, rfl, rfl, rfl, rfl, by decide +kernel⟩ ?hw ?hc; (case hw => w_witness2)
  k_fill
  refine K11.walk (l := PySem.Challenge.rw_stamprules_k11_what_an_answer_does) rfl rfl (fun w h Y => PySem.W.kIn_of Y) ?F
  case F =>
    intro w mg fa h KX G hmg
    refine' K11.fin (K11.all_mk (w := w) KX G hmg ?z_hn ?z_ht ?gc_StampError ?kc_StampError ?gc_BadEntry ?kc_BadEntry ?gc_BadAnswer ?kc_BadAnswer ?gc_BadSetting ?kc_BadSetting ?gc_BadStep ?kc_BadStep ?gc_Item ?kc_Item ?gc_State ?kc_State ?gc_Book ?kc_Book ?xl_StampError ?sa_StampError ?xb_StampError ?xt_StampError ?ga_StampError ?gg_StampError ?hd_StampError ?ha_StampError ?hm_StampError ?sb_StampError_StampError ?ko_StampError_StampError ?sb_StampError_BadEntry ?ko_StampError_BadEntry ?sb_StampError_BadAnswer ?ko_StampError_BadAnswer ?sb_StampError_BadSetting ?ko_StampError_BadSetting ?sb_StampError_BadStep ?ko_StampError_BadStep ?kv_StampError ?xl_BadEntry ?sa_BadEntry ?xb_BadEntry ?xt_BadEntry ?ga_BadEntry ?gg_BadEntry ?hd_BadEntry ?ha_BadEntry ?hm_BadEntry ?sb_BadEntry_StampError ?ko_BadEntry_StampError ?sb_BadEntry_BadEntry ?ko_BadEntry_BadEntry ?sb_BadEntry_BadAnswer ?ko_BadEntry_BadAnswer ?sb_BadEntry_BadSetting ?ko_BadEntry_BadSetting ?sb_BadEntry_BadStep ?ko_BadEntry_BadStep ?kv_BadEntry ?na_BadEntry_entry ?xl_BadAnswer ?sa_BadAnswer ?xb_BadAnswer ?xt_BadAnswer ?ga_BadAnswer ?gg_BadAnswer ?hd_BadAnswer ?ha_BadAnswer ?hm_BadAnswer ?sb_BadAnswer_StampError ?ko_BadAnswer_StampError ?sb_BadAnswer_BadEntry ?ko_BadAnswer_BadEntry ?sb_BadAnswer_BadAnswer ?ko_BadAnswer_BadAnswer ?sb_BadAnswer_BadSetting ?ko_BadAnswer_BadSetting ?sb_BadAnswer_BadStep ?ko_BadAnswer_BadStep ?kv_BadAnswer ?na_BadAnswer_answer ?na_BadAnswer_entry ?xl_BadSetting ?sa_BadSetting ?xb_BadSetting ?xt_BadSetting ?ga_BadSetting ?gg_BadSetting ?hd_BadSetting ?ha_BadSetting ?hm_BadSetting ?sb_BadSetting_StampError ?ko_BadSetting_StampError ?sb_BadSetting_BadEntry ?ko_BadSetting_BadEntry ?sb_BadSetting_BadAnswer ?ko_BadSetting_BadAnswer ?sb_BadSetting_BadSetting ?ko_BadSetting_BadSetting ?sb_BadSetting_BadStep ?ko_BadSetting_BadStep ?kv_BadSetting ?na_BadSetting_given ?xl_BadStep ?sa_BadStep ?xb_BadStep ?xt_BadStep ?ga_BadStep ?gg_BadStep ?hd_BadStep ?ha_BadStep ?hm_BadStep ?sb_BadStep_StampError ?ko_BadStep_StampError ?sb_BadStep_BadEntry ?ko_BadStep_BadEntry ?sb_BadStep_BadAnswer ?ko_BadStep_BadAnswer ?sb_BadStep_BadSetting ?ko_BadStep_BadSetting ?sb_BadStep_BadStep ?ko_BadStep_BadStep ?kv_BadStep ?na_BadStep_index ?pg_Item ?hd_Item ?po_Item ?sa_Item ?mk_Item ?ha_Item ?hm_Item ?ko_Item ?na_Item_holder ?na_Item_kept ?na_Item_reader ?na_Item_value ?pg_State ?hd_State ?po_State ?sa_State ?mk_State ?ha_State ?hm_State ?ko_State ?na_State_bonds ?na_State_over ?na_State_store ?pg_Book ?hd_Book ?po_Book ?sa_Book ?mk_Book ?ha_Book ?hm_Book ?ko_Book ?na_Book__answers ?na_Book__ends ?na_Book__keep ?a_BadEntry_init ?l_BadEntry_init ?c_BadEntry_init ?cl_BadEntry_init ?cv_BadEntry_init ?cw_BadEntry_init ?cx_BadEntry_init ?tp_BadEntry_init ?su_BadEntry_init ?ve_BadEntry_init ?md_BadEntry_init ?ti_BadEntry_init ?z_th ?z_su ?a_BadAnswer_init ?l_BadAnswer_init ?c_BadAnswer_init ?cl_BadAnswer_init ?cv_BadAnswer_init ?cw_BadAnswer_init ?cx_BadAnswer_init ?tp_BadAnswer_init ?su_BadAnswer_init ?ve_BadAnswer_init ?md_BadAnswer_init ?ti_BadAnswer_init ?a_BadSetting_init ?l_BadSetting_init ?c_BadSetting_init ?cl_BadSetting_init ?cv_BadSetting_init ?cw_BadSetting_init ?cx_BadSetting_init ?tp_BadSetting_init ?su_BadSetting_init ?ve_BadSetting_init ?md_BadSetting_init ?ti_BadSetting_init ?a_BadStep_init ?l_BadStep_init ?c_BadStep_init ?cl_BadStep_init ?cv_BadStep_init ?cw_BadStep_init ?cx_BadStep_init ?tp_BadStep_init ?su_BadStep_init ?ve_BadStep_init ?md_BadStep_init ?ti_BadStep_init ?a_Item_init ?l_Item_init ?c_Item_init ?k_Item_init ?fn_Item_init ?a_State_init ?l_State_init ?c_State_init ?k_State_init ?fn_State_init ?a_Book_init ?l_Book_init ?c_Book_init ?k_Book_init ?kw0_Book_init ?kw1_Book_init ?T1_Book_init ?fn_Book_init ?a_Book_ends ?pg_Book_ends ?pt_Book_ends ?pc_Book_ends ?l_Book_ends ?c_Book_ends ?k_Book_ends ?a_Book_keep ?pg_Book_keep ?pt_Book_keep ?pc_Book_keep ?l_Book_keep ?c_Book_keep ?k_Book_keep ?a_Book_getitem ?l_Book_getitem ?c_Book_getitem ?k_Book_getitem ?fn_Book_getitem ?nd_Book ?fi_Book_getitem ?a_is_stamp ?l_is_stamp ?c_is_stamp ?k_is_stamp ?T1_is_stamp ?a_place ?l_place ?c_place ?k_place ?a_first_state ?l_first_state ?c_first_state ?k_first_state ?a_item_of ?l_item_of ?c_item_of ?k_item_of ?a_ascending ?l_ascending ?c_ascending ?k_ascending ?a_taken ?l_taken ?c_taken ?k_taken ?a_committed ?l_committed ?c_committed ?k_committed ?a_settled ?l_settled ?c_settled ?k_settled ?a_aborted ?l_aborted ?c_aborted ?k_aborted ?a_without ?l_without ?c_without ?k_without ?a_falling ?l_falling ?c_falling ?k_falling ?a_released ?l_released ?c_released ?k_released ?a_requested ?l_requested ?c_requested ?k_requested ?a_asked ?l_asked ?c_asked ?k_asked ?a_entry_met ?l_entry_met ?c_entry_met ?k_entry_met ?a_fixed_answer ?l_fixed_answer ?c_fixed_answer ?k_fixed_answer ?a_older_values ?l_older_values ?c_older_values ?k_older_values ?a_value_read ?l_value_read ?c_value_read ?k_value_read ?a_binds ?l_binds ?c_binds ?k_binds ?a_with_bond ?l_with_bond ?c_with_bond ?k_with_bond ?a_with_reader ?l_with_reader ?c_with_reader ?k_with_reader ?a_with_item ?l_with_item ?c_with_item ?k_with_item ?a_play ?l_play ?c_play ?k_play ?a_traced ?l_traced ?c_traced ?k_traced ?a_check_run ?l_check_run ?c_check_run ?k_check_run ?a_is_step ?l_is_step ?c_is_step ?k_is_step ?a_is_name ?l_is_name ?c_is_name ?k_is_name ?a_answers_at ?l_answers_at ?c_answers_at ?k_answers_at ?a_check_answer ?l_check_answer ?c_check_answer ?k_check_answer ?a_is_keep ?l_is_keep ?c_is_keep ?k_is_keep ?a_law_cell ?l_law_cell ?c_law_cell ?k_law_cell ?a_law_row ?l_law_row ?c_law_row ?k_law_row ?a_law_entries ?l_law_entries ?c_law_entries ?k_law_entries ?a_law_choices ?l_law_choices ?c_law_choices ?k_law_choices ?a_law_names ?l_law_names ?c_law_names ?k_law_names ?a_law_ints ?l_law_ints ?c_law_ints ?k_law_ints ?a_law_outcome ?l_law_outcome ?c_law_outcome ?k_law_outcome ?a_law_ways ?l_law_ways ?c_law_ways ?k_law_ways ?a_law_scaled ?l_law_scaled ?c_law_scaled ?k_law_scaled ?a_law_due ?l_law_due ?c_law_due ?k_law_due ?a_law ?l_law ?c_law ?k_law ?gv_GREATEST ?gv_SIGNS ?gv_LONGEST_NAME ?gv_ENTRIES ?tl_ENTRIES ?gv_ANSWERS ?dl_ANSWERS ?dk_ANSWERS ?ds_ANSWERS ?tl_0_ANSWERS ?tl_1_ANSWERS ?tl_2_ANSWERS ?tl_3_ANSWERS ?tl_4_ANSWERS ?tl_5_ANSWERS ?tl_6_ANSWERS ?tl_7_ANSWERS ?tl_8_ANSWERS ?tl_9_ANSWERS ?tl_10_ANSWERS ?tl_11_ANSWERS ?tl_12_ANSWERS ?tl_13_ANSWERS ?dn0_ANSWERS ?dn1_ANSWERS ?dn2_ANSWERS ?dn3_ANSWERS ?dn4_ANSWERS ?dn5_ANSWERS ?dn6_ANSWERS ?dn7_ANSWERS ?dn8_ANSWERS ?dn9_ANSWERS ?dn10_ANSWERS ?dn11_ANSWERS ?dn12_ANSWERS ?dn13_ANSWERS ?gv_MOST_KEPT ?n_all ?n_bool ?n_dict ?n_enumerate ?n_int ?n_isinstance ?n_len ?n_list ?n_range ?n_sorted ?n_str ?n_super ?n_tuple)
    (case z_hn => k_is)
    (case z_ht => k_is)
    (case gc_StampError => k_is)
    (case kc_StampError => k_is)
    (case gc_BadEntry => k_is)
    (case kc_BadEntry => k_is)
    (case gc_BadAnswer => k_is)
    (case kc_BadAnswer => k_is)
    (case gc_BadSetting => k_is)
    (case kc_BadSetting => k_is)
    (case gc_BadStep => k_is)
    (case kc_BadStep => k_is)
    (case gc_Item => k_is)
    (case kc_Item => k_is)
    (case gc_State => k_is)
    (case kc_State => k_is)
    (case gc_Book => k_is)
    (case kc_Book => k_is)
    (case xl_StampError => k_is)
    (case sa_StampError => k_is)
    (case xb_StampError => k_is)
    (case xt_StampError => k_is)
    (case ga_StampError => k_is)
    (case gg_StampError => k_is)
    (case hd_StampError => k_is)
    (case ha_StampError => k_is)
    (case hm_StampError => k_is)
    (case sb_StampError_StampError => first | rfl | k_is)
    (case ko_StampError_StampError => first | rfl | k_is)
    (case sb_StampError_BadEntry => first | rfl | k_is)
    (case ko_StampError_BadEntry => first | rfl | k_is)
    (case sb_StampError_BadAnswer => first | rfl | k_is)
    (case ko_StampError_BadAnswer => first | rfl | k_is)
    (case sb_StampError_BadSetting => first | rfl | k_is)
    (case ko_StampError_BadSetting => first | rfl | k_is)
    (case sb_StampError_BadStep => first | rfl | k_is)
    (case ko_StampError_BadStep => first | rfl | k_is)
    (case kv_StampError => first | rfl | k_is)
    (case xl_BadEntry => k_is)
    (case sa_BadEntry => k_is)
    (case xb_BadEntry => k_is)
    (case xt_BadEntry => k_is)
    (case ga_BadEntry => k_is)
    (case gg_BadEntry => k_is)
    (case hd_BadEntry => k_is)
    (case ha_BadEntry => k_is)
    (case hm_BadEntry => k_is)
    (case sb_BadEntry_StampError => first | rfl | k_is)
    (case ko_BadEntry_StampError => first | rfl | k_is)
    (case sb_BadEntry_BadEntry => first | rfl | k_is)
    (case ko_BadEntry_BadEntry => first | rfl | k_is)
    (case sb_BadEntry_BadAnswer => first | rfl | k_is)
    (case ko_BadEntry_BadAnswer => first | rfl | k_is)
    (case sb_BadEntry_BadSetting => first | rfl | k_is)
    (case ko_BadEntry_BadSetting => first | rfl | k_is)
    (case sb_BadEntry_BadStep => first | rfl | k_is)
    (case ko_BadEntry_BadStep => first | rfl | k_is)
    (case kv_BadEntry => first | rfl | k_is)
    (case na_BadEntry_entry => k_is)
    (case xl_BadAnswer => k_is)
    (case sa_BadAnswer => k_is)
    (case xb_BadAnswer => k_is)
    (case xt_BadAnswer => k_is)
    (case ga_BadAnswer => k_is)
    (case gg_BadAnswer => k_is)
    (case hd_BadAnswer => k_is)
    (case ha_BadAnswer => k_is)
    (case hm_BadAnswer => k_is)
    (case sb_BadAnswer_StampError => first | rfl | k_is)
    (case ko_BadAnswer_StampError => first | rfl | k_is)
    (case sb_BadAnswer_BadEntry => first | rfl | k_is)
    (case ko_BadAnswer_BadEntry => first | rfl | k_is)
    (case sb_BadAnswer_BadAnswer => first | rfl | k_is)
    (case ko_BadAnswer_BadAnswer => first | rfl | k_is)
    (case sb_BadAnswer_BadSetting => first | rfl | k_is)
    (case ko_BadAnswer_BadSetting => first | rfl | k_is)
    (case sb_BadAnswer_BadStep => first | rfl | k_is)
    (case ko_BadAnswer_BadStep => first | rfl | k_is)
    (case kv_BadAnswer => first | rfl | k_is)
    (case na_BadAnswer_answer => k_is)
    (case na_BadAnswer_entry => k_is)
    (case xl_BadSetting => k_is)
    (case sa_BadSetting => k_is)
    (case xb_BadSetting => k_is)
    (case xt_BadSetting => k_is)
    (case ga_BadSetting => k_is)
    (case gg_BadSetting => k_is)
    (case hd_BadSetting => k_is)
    (case ha_BadSetting => k_is)
    (case hm_BadSetting => k_is)
    (case sb_BadSetting_StampError => first | rfl | k_is)
    (case ko_BadSetting_StampError => first | rfl | k_is)
    (case sb_BadSetting_BadEntry => first | rfl | k_is)
    (case ko_BadSetting_BadEntry => first | rfl | k_is)
    (case sb_BadSetting_BadAnswer => first | rfl | k_is)
    (case ko_BadSetting_BadAnswer => first | rfl | k_is)
    (case sb_BadSetting_BadSetting => first | rfl | k_is)
    (case ko_BadSetting_BadSetting => first | rfl | k_is)
    (case sb_BadSetting_BadStep => first | rfl | k_is)
    (case ko_BadSetting_BadStep => first | rfl | k_is)
    (case kv_BadSetting => first | rfl | k_is)
    (case na_BadSetting_given => k_is)
    (case xl_BadStep => k_is)
    (case sa_BadStep => k_is)
    (case xb_BadStep => k_is)
    (case xt_BadStep => k_is)
    (case ga_BadStep => k_is)
    (case gg_BadStep => k_is)
    (case hd_BadStep => k_is)
    (case ha_BadStep => k_is)
    (case hm_BadStep => k_is)
    (case sb_BadStep_StampError => first | rfl | k_is)
    (case ko_BadStep_StampError => first | rfl | k_is)
    (case sb_BadStep_BadEntry => first | rfl | k_is)
    (case ko_BadStep_BadEntry => first | rfl | k_is)
    (case sb_BadStep_BadAnswer => first | rfl | k_is)
    (case ko_BadStep_BadAnswer => first | rfl | k_is)
    (case sb_BadStep_BadSetting => first | rfl | k_is)
    (case ko_BadStep_BadSetting => first | rfl | k_is)
    (case sb_BadStep_BadStep => first | rfl | k_is)
    (case ko_BadStep_BadStep => first | rfl | k_is)
    (case kv_BadStep => first | rfl | k_is)
    (case na_BadStep_index => k_is)
    (case pg_Item => k_is)
    (case hd_Item => k_is)
    (case po_Item => k_is)
    (case sa_Item => k_is)
    (case mk_Item => k_is)
    (case ha_Item => k_is)
    (case hm_Item => k_is)
    (case ko_Item => first | rfl | k_is)
    (case na_Item_holder => k_is)
    (case na_Item_kept => k_is)
    (case na_Item_reader => k_is)
    (case na_Item_value => k_is)
    (case pg_State => k_is)
    (case hd_State => k_is)
    (case po_State => k_is)
    (case sa_State => k_is)
    (case mk_State => k_is)
    (case ha_State => k_is)
    (case hm_State => k_is)
    (case ko_State => first | rfl | k_is)
    (case na_State_bonds => k_is)
    (case na_State_over => k_is)
    (case na_State_store => k_is)
    (case pg_Book => k_is)
    (case hd_Book => k_is)
    (case po_Book => k_is)
    (case sa_Book => k_is)
    (case mk_Book => k_is)
    (case ha_Book => k_is)
    (case hm_Book => k_is)
    (case ko_Book => first | rfl | k_is)
    (case na_Book__answers => k_is)
    (case na_Book__ends => k_is)
    (case na_Book__keep => k_is)
    (case a_BadEntry_init => k_is)
    (case l_BadEntry_init => k_is)
    (case c_BadEntry_init => k_is)
    (case cl_BadEntry_init => k_is)
    (case cv_BadEntry_init => k_is)
    (case cw_BadEntry_init => rfl)
    (case cx_BadEntry_init => first | rfl | decide +kernel)
    (case tp_BadEntry_init => first | rfl | decide +kernel)
    (case su_BadEntry_init => first | rfl | k_is)
    (case ve_BadEntry_init => first | rfl | k_is)
    (case md_BadEntry_init => first | rfl | k_is)
    (case ti_BadEntry_init => k_is)
    (case z_th => k_is)
    (case z_su => k_is)
    (case a_BadAnswer_init => k_is)
    (case l_BadAnswer_init => k_is)
    (case c_BadAnswer_init => k_is)
    (case cl_BadAnswer_init => k_is)
    (case cv_BadAnswer_init => k_is)
    (case cw_BadAnswer_init => rfl)
    (case cx_BadAnswer_init => first | rfl | decide +kernel)
    (case tp_BadAnswer_init => first | rfl | decide +kernel)
    (case su_BadAnswer_init => first | rfl | k_is)
    (case ve_BadAnswer_init => first | rfl | k_is)
    (case md_BadAnswer_init => first | rfl | k_is)
    (case ti_BadAnswer_init => k_is)
    (case a_BadSetting_init => k_is)
    (case l_BadSetting_init => k_is)
    (case c_BadSetting_init => k_is)
    (case cl_BadSetting_init => k_is)
    (case cv_BadSetting_init => k_is)
    (case cw_BadSetting_init => rfl)
    (case cx_BadSetting_init => first | rfl | decide +kernel)
    (case tp_BadSetting_init => first | rfl | decide +kernel)
    (case su_BadSetting_init => first | rfl | k_is)
    (case ve_BadSetting_init => first | rfl | k_is)
    (case md_BadSetting_init => first | rfl | k_is)
    (case ti_BadSetting_init => k_is)
    (case a_BadStep_init => k_is)
    (case l_BadStep_init => k_is)
    (case c_BadStep_init => k_is)
    (case cl_BadStep_init => k_is)
    (case cv_BadStep_init => k_is)
    (case cw_BadStep_init => rfl)
    (case cx_BadStep_init => first | rfl | decide +kernel)
    (case tp_BadStep_init => first | rfl | decide +kernel)
    (case su_BadStep_init => first | rfl | k_is)
    (case ve_BadStep_init => first | rfl | k_is)
    (case md_BadStep_init => first | rfl | k_is)
    (case ti_BadStep_init => k_is)
    (case a_Item_init => k_is)
    (case l_Item_init => k_is)
    (case c_Item_init => k_is)
    (case k_Item_init => k_is)
    (case fn_Item_init => k_is)
    (case a_State_init => k_is)
    (case l_State_init => k_is)
    (case c_State_init => k_is)
    (case k_State_init => k_is)
    (case fn_State_init => k_is)
    (case a_Book_init => k_is)
    (case l_Book_init => k_is)
    (case c_Book_init => k_is)
    (case k_Book_init => k_is)
    (case kw0_Book_init => k_is)
    (case kw1_Book_init => k_is)
    (case T1_Book_init => k_is)
    (case fn_Book_init => k_is)
    (case a_Book_ends => k_is)
    (case pg_Book_ends => k_is)
    (case pt_Book_ends => k_is)
    (case pc_Book_ends => k_is)
    (case l_Book_ends => k_is)
    (case c_Book_ends => k_is)
    (case k_Book_ends => k_is)
    (case a_Book_keep => k_is)
    (case pg_Book_keep => k_is)
    (case pt_Book_keep => k_is)
    (case pc_Book_keep => k_is)
    (case l_Book_keep => k_is)
    (case c_Book_keep => k_is)
    (case k_Book_keep => k_is)
    (case a_Book_getitem => k_is)
    (case l_Book_getitem => k_is)
    (case c_Book_getitem => k_is)
    (case k_Book_getitem => k_is)
    (case fn_Book_getitem => k_is)
    (case nd_Book => k_is)
    (case fi_Book_getitem => k_is)
    (case a_is_stamp => k_is)
    (case l_is_stamp => k_is)
    (case c_is_stamp => k_is)
    (case k_is_stamp => k_is)
    (case T1_is_stamp => k_is)
    (case a_place => k_is)
    (case l_place => k_is)
    (case c_place => k_is)
    (case k_place => k_is)
    (case a_first_state => k_is)
    (case l_first_state => k_is)
    (case c_first_state => k_is)
    (case k_first_state => k_is)
    (case a_item_of => k_is)
    (case l_item_of => k_is)
    (case c_item_of => k_is)
    (case k_item_of => k_is)
    (case a_ascending => k_is)
    (case l_ascending => k_is)
    (case c_ascending => k_is)
    (case k_ascending => k_is)
    (case a_taken => k_is)
    (case l_taken => k_is)
    (case c_taken => k_is)
    (case k_taken => k_is)
    (case a_committed => k_is)
    (case l_committed => k_is)
    (case c_committed => k_is)
    (case k_committed => k_is)
    (case a_settled => k_is)
    (case l_settled => k_is)
    (case c_settled => k_is)
    (case k_settled => k_is)
    (case a_aborted => k_is)
    (case l_aborted => k_is)
    (case c_aborted => k_is)
    (case k_aborted => k_is)
    (case a_without => k_is)
    (case l_without => k_is)
    (case c_without => k_is)
    (case k_without => k_is)
    (case a_falling => k_is)
    (case l_falling => k_is)
    (case c_falling => k_is)
    (case k_falling => k_is)
    (case a_released => k_is)
    (case l_released => k_is)
    (case c_released => k_is)
    (case k_released => k_is)
    (case a_requested => k_is)
    (case l_requested => k_is)
    (case c_requested => k_is)
    (case k_requested => k_is)
    (case a_asked => k_is)
    (case l_asked => k_is)
    (case c_asked => k_is)
    (case k_asked => k_is)
    (case a_entry_met => k_is)
    (case l_entry_met => k_is)
    (case c_entry_met => k_is)
    (case k_entry_met => k_is)
    (case a_fixed_answer => k_is)
    (case l_fixed_answer => k_is)
    (case c_fixed_answer => k_is)
    (case k_fixed_answer => k_is)
    (case a_older_values => k_is)
    (case l_older_values => k_is)
    (case c_older_values => k_is)
    (case k_older_values => k_is)
    (case a_value_read => k_is)
    (case l_value_read => k_is)
    (case c_value_read => k_is)
    (case k_value_read => k_is)
    (case a_binds => k_is)
    (case l_binds => k_is)
    (case c_binds => k_is)
    (case k_binds => k_is)
    (case a_with_bond => k_is)
    (case l_with_bond => k_is)
    (case c_with_bond => k_is)
    (case k_with_bond => k_is)
    (case a_with_reader => k_is)
    (case l_with_reader => k_is)
    (case c_with_reader => k_is)
    (case k_with_reader => k_is)
    (case a_with_item => k_is)
    (case l_with_item => k_is)
    (case c_with_item => k_is)
    (case k_with_item => k_is)
    (case a_play => k_is)
    (case l_play => k_is)
    (case c_play => k_is)
    (case k_play => k_is)
    (case a_traced => k_is)
    (case l_traced => k_is)
    (case c_traced => k_is)
    (case k_traced => k_is)
    (case a_check_run => k_is)
    (case l_check_run => k_is)
    (case c_check_run => k_is)
    (case k_check_run => k_is)
    (case a_is_step => k_is)
    (case l_is_step => k_is)
    (case c_is_step => k_is)
    (case k_is_step => k_is)
    (case a_is_name => k_is)
    (case l_is_name => k_is)
    (case c_is_name => k_is)
    (case k_is_name => k_is)
    (case a_answers_at => k_is)
    (case l_answers_at => k_is)
    (case c_answers_at => k_is)
    (case k_answers_at => k_is)
    (case a_check_answer => k_is)
    (case l_check_answer => k_is)
    (case c_check_answer => k_is)
    (case k_check_answer => k_is)
    (case a_is_keep => k_is)
    (case l_is_keep => k_is)
    (case c_is_keep => k_is)
    (case k_is_keep => k_is)
    (case a_law_cell => k_is)
    (case l_law_cell => k_is)
    (case c_law_cell => k_is)
    (case k_law_cell => k_is)
    (case a_law_row => k_is)
    (case l_law_row => k_is)
    (case c_law_row => k_is)
    (case k_law_row => k_is)
    (case a_law_entries => k_is)
    (case l_law_entries => k_is)
    (case c_law_entries => k_is)
    (case k_law_entries => k_is)
    (case a_law_choices => k_is)
    (case l_law_choices => k_is)
    (case c_law_choices => k_is)
    (case k_law_choices => k_is)
    (case a_law_names => k_is)
    (case l_law_names => k_is)
    (case c_law_names => k_is)
    (case k_law_names => k_is)
    (case a_law_ints => k_is)
    (case l_law_ints => k_is)
    (case c_law_ints => k_is)
    (case k_law_ints => k_is)
    (case a_law_outcome => k_is)
    (case l_law_outcome => k_is)
    (case c_law_outcome => k_is)
    (case k_law_outcome => k_is)
    (case a_law_ways => k_is)
    (case l_law_ways => k_is)
    (case c_law_ways => k_is)
    (case k_law_ways => k_is)
    (case a_law_scaled => k_is)
    (case l_law_scaled => k_is)
    (case c_law_scaled => k_is)
    (case k_law_scaled => k_is)
    (case a_law_due => k_is)
    (case l_law_due => k_is)
    (case c_law_due => k_is)
    (case k_law_due => k_is)
    (case a_law => k_is)
    (case l_law => k_is)
    (case c_law => k_is)
    (case k_law => k_is)
    (case gv_GREATEST => k_is)
    (case gv_SIGNS => k_is)
    (case gv_LONGEST_NAME => k_is)
    (case gv_ENTRIES => k_is)
    (case tl_ENTRIES => k_is)
    (case gv_ANSWERS => k_is)
    (case dl_ANSWERS => k_is)
    (case dk_ANSWERS => first | k_is | exact ⟨⟨_, _, rfl, rfl⟩, ⟨_, _, rfl, rfl⟩, ⟨_, _, rfl, rfl⟩, ⟨_, _, rfl, rfl⟩, ⟨_, _, rfl, rfl⟩, ⟨_, _, rfl, rfl⟩, ⟨_, _, rfl, rfl⟩, ⟨_, _, rfl, rfl⟩, ⟨_, _, rfl, rfl⟩, ⟨_, _, rfl, rfl⟩, ⟨_, _, rfl, rfl⟩, ⟨_, _, rfl, rfl⟩, ⟨_, _, rfl, rfl⟩, ⟨_, _, rfl, rfl⟩, trivial⟩)
    (case ds_ANSWERS => first | rfl | decide +kernel)
    (case tl_0_ANSWERS => k_is)
    (case tl_1_ANSWERS => k_is)
    (case tl_2_ANSWERS => k_is)
    (case tl_3_ANSWERS => k_is)
    (case tl_4_ANSWERS => k_is)
    (case tl_5_ANSWERS => k_is)
    (case tl_6_ANSWERS => k_is)
    (case tl_7_ANSWERS => k_is)
    (case tl_8_ANSWERS => k_is)
    (case tl_9_ANSWERS => k_is)
    (case tl_10_ANSWERS => k_is)
    (case tl_11_ANSWERS => k_is)
    (case tl_12_ANSWERS => k_is)
    (case tl_13_ANSWERS => k_is)
    (case dn0_ANSWERS => k_is)
    (case dn1_ANSWERS => k_is)
    (case dn2_ANSWERS => k_is)
    (case dn3_ANSWERS => k_is)
    (case dn4_ANSWERS => k_is)
    (case dn5_ANSWERS => k_is)
    (case dn6_ANSWERS => k_is)
    (case dn7_ANSWERS => k_is)
    (case dn8_ANSWERS => k_is)
    (case dn9_ANSWERS => k_is)
    (case dn10_ANSWERS => k_is)
    (case dn11_ANSWERS => k_is)
    (case dn12_ANSWERS => k_is)
    (case dn13_ANSWERS => k_is)
    (case gv_MOST_KEPT => k_is)
    (case n_all => k_is)
    (case n_bool => k_is)
    (case n_dict => k_is)
    (case n_enumerate => k_is)
    (case n_int => k_is)
    (case n_isinstance => k_is)
    (case n_len => k_is)
    (case n_list => k_is)
    (case n_range => k_is)
    (case n_sorted => k_is)
    (case n_str => k_is)
    (case n_super => k_is)
    (case n_tuple => k_is)

