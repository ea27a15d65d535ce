import PyProof.Rows.All
import Wide.All
import OpenK.AllK
import Wide.FinOn
import HandS.ForMost
import HandS.Exc
import HandS.TryOnly
import HandS.ExcInit
import HandS.Nested
import KE.KExcSuper
import HandS.Defaults
import HandS.IsInst
import HandS.ExcIs
import HandS.ExcField
import HandS.WordsExc
import HandS.More
import HandS.Codes
import HandS.SlotsOwn
import KE.KExcIs
import PySem.Challenge.RW_stamprules_k02_place_of_an_asker
set_option Elab.async false
set_option linter.all false
set_option maxRecDepth 100000
set_option maxHeartbeats 4000000
/-! An own exception over ValueError, through a chain of own classes, whose own __init__ begins with super().__init__(..): that __init__ keeps a promise. -/
namespace SI
open PySem PySem.Spec PyProof.Rows L2 NdefX

/-- what the written part tells of the class at C, of the class at D in which the __init__ stands, and of that function at f -/
structure SupT (prog : Program) (K : PySem.W.Frag) (mg : Str → Option Value) (D f cda cc : Addr) (F : NF) (fd : FuncData) : Prop where
  oex : OexC K D
  sup : PySem.W.ks_superIn K D D "__init__" = some (some (.builtin "ValueError.__init__"))
  vE : PySem.W.subIn K (.ref D) (.type "ValueError") = some true
  mD : PySem.W.mroIn K D (.ref D) = some true
  th : PySem.W.nsIn K cStatics "thirdparty.any" = some none
  noSuper : mg "super" = none
  cl : F.cl = [(("__class__" : Str), cc)]
  cdF : F.c = cda
  fn : ∃ (oc kV doc pm ct : Value) (od : Option Addr) (an : Option Addr) (osl : Array (Option Value)),
    fd = PySem.W.fnX F.name F.qual F.params F.body F.scope F.cl .none kV doc pm an (.ref cda) ct ∧ K.lookup f = some ⟨oc, od, .func fd, osl⟩
  code : ∃ (ccl : Value) (cdd : Option Addr) (vs : Array Value) (ccs : Array (Option Value)) (file : Str) (tf : Tok), K.lookup cda = some ⟨ccl, cdd, .fields vs, ccs⟩ ∧ vs[2]? = some (.str file tf) ∧ ((prog.main.file : Str) == file) = true
  codeR : PySem.W.codeIn K (.ref cda) F.qual = true
  cell : ∃ (ccl : Value) (cdd : Option Addr) (ccs : Array (Option Value)), K.lookup cc = some ⟨ccl, cdd, .cell (some (.ref D)), ccs⟩
  top : (prog.main.scope.names.lookup ("super" : Str)).isSome = false

theorem clsIn_of {K : PySem.W.Frag} {C : Addr} (T : OexC K C) : ∃ cd, PySem.W.clsIn K C = some cd ∧ cd.mro.contains (.type "object") = true := by
  obtain ⟨nm, q, N, bs, bm, sn, sub, ab, col, dd, k0, k1, k2, k3, k5, hC, hbm⟩ := T.cls
  refine ⟨{ name := nm, bases := bs, mro := .ref C :: bm, ns := N, qualname := q, hasDict := true, slotNames := sn, subclasses := sub, abstract := ab, collection := col, hasDel := false }, ?_, ?_⟩
  · unfold PySem.W.clsIn; rw [hC] <;> rfl
  · exact (PySem.HandSPX.refsVE_contains "object" (.ref C :: bm) hbm).trans (by decide +kernel)

section
variable {prog : Program} {w : World} {A : Around} {E : Value → Shared → Prop} {h : Heap} {g : Array GenState} {d : Drawn} {t : Nat} {os : OsState}
theorem bw_call {K : PySem.W.Frag} {u e C t0 : Addr} {rest : List Value} {Q : Value → Shared → Prop} (T : OexC K C) (X : K.In h) (he : h.get? e = some (HandSPX.excO C t0)) (hu : h.get? u = some (PySem.W.kxs_mw "ValueError.__init__" e)) (hrest : rest.length ≤ sizeLine)
    (hq : ∀ h' t1, (∀ b o, b ≠ e → h.get? b = some o → h'.get? b = some o) → h'.get? e = some (HandSPX.excO C t1) → Q .none ⟨h', g, d, t, os⟩) :
    wpAny (model prog w) A (call (.ref u) rest) Q E ⟨h, g, d, t, os⟩ := by
  obtain ⟨nm, q, N, bs, bm, sn, sub, ab, col, dd, k0, k1, k2, k3, k5, hC, hbm⟩ := T.cls
  have hC' := X _ _ hC
  refine wpAny_call (codeAny_of_tree ?_)
  show wpAny _ A.in1 (callAny (.ref u) ⟨rest, []⟩) _ _ _
  simp only [callAny]
  refine wpAny_bind (wpAny_load hu ?_)
  simp only [PySem.W.kxs_mw, show (Value.type "method-wrapper" == Value.type "method" || Value.type "method-wrapper" == Value.type "builtin_function_or_method" || Value.type "method-wrapper" == Value.type "method-wrapper") = true by decide, if_true]
  refine PySem.W.KFB.if_so (by decide) ?_
  refine wpAny_bind (PySem.W.check_bound_init F.excBase_ValueError.toExcCallFacts hC' he rfl ?_)
  refine wpAny_bind (wpAny_pure (wpAny_pure ?_))
  refine ⟨plainId_quiet F.excBase_ValueError.init.plain _, codeAny_builtin F.excBase_ValueError.initEntry ?_⟩
  exact PySem.W.exc_init_tree (cls := .ref C) (t0 := t0) (dv := none) (c2 := .none) (c3 := .none) (b4 := .bool false) he hrest (fun h' k e' t' => hq h' _ k e')
end

section
variable {X : Cx} {es : List Expr} {ta : TA} {p0 p1 p2 p3 p4 : Pos} {body : List Stmt} {pins : List (Addr × Obj)} {σ : L2.St} {H : Hp} {s : Shared} {a D f cda cc : Addr} {F : NF} {fd : FuncData} {ar : Arg} {Q : Hp → Prop}
/-- super().__init__(..) as a statement of an __init__ -/
theorem sup_stmt {pl : Sem Bool} (T : SupT X.prog X.K X.mg D f cda cc F fd) (henv : X.env = envF F f X.env.locals)
    (hks : F.scope.names.lookup ("super" : Str) = some .globalImplicit) (hkc : F.scope.names.lookup ("__class__" : Str) = some .free)
    (hp : (F.params.posonlyargs ++ F.params.args).head? = some ar) (hka : F.scope.names.lookup ar.arg = some .local) (hN : X.N[0]? = some ar.arg)
    (ha : PA X es ta) (hpl : (backTo p3 (starEach es X.env)).any (·.1) = false) (hst : ∀ (u : Value) (Q' : Args → Shared → Prop) (s' : Shared), wpAny (model X.prog X.w) X.A (spliced (backTo p3 (starEach es X.env))) (fun vs s₁ => Q' ⟨vs, []⟩ s₁) X.xe s' → wpAny (model X.prog X.w) X.A (evalArgs u true (backTo p3 (starEach es X.env)) []) Q' X.xe s')
    (hev : eval (.Call (.Attribute (.Call (.Name "super" p0) [] [] p1) "__init__" p2) es [] p3) X.env = (do
      let ov ← attributeBase (.Call (.Name "super" p0) [] [] p1) "__init__" X.env (eval (.Call (.Name "super" p0) [] [] p1) X.env)
      standAt p2.atName
      let (f, first) ← holding [ov] (getMethod ov "__init__" pl)
      callWith p3 f first (backTo p3 (starEach es X.env)) []))
    (hsw : swapsWith (.Call (.Attribute (.Call (.Name "super" p0) [] [] p1) "__init__" p2) es [] p3) none p4.line X.env = pure false)
    (I : Inv X pins σ H s) (e0 : σ[0]? = some (some (.ref a))) (ea : H a = some (exo a D none))
    (h : ta σ H fun vs H1 => vs.length ≤ 1000 ∧ H1 a = some (exo a D none) ∧ Q H1) :
    _root_.PySem.wpAt (model X.prog X.w) X.A (.func body X.env) (exec (.Expr (.Call (.Attribute (.Call (.Name "super" p0) [] [] p1) "__init__" p2) es [] p3) p4) X.env) (fun fl s' => fl = .next ∧ ∃ H', Inv X pins σ H' s' ∧ Q H') X.xe s := by
  obtain ⟨fn, _⟩ : True ∧ True := ⟨trivial, trivial⟩
  obtain ⟨oc, kV, doc, pm, ct, od, an, osl, rfl, hfn⟩ := T.fn
  obtain ⟨ccl, cdd, vs, ccs, file, tf, hcode, hvs, hfile⟩ := T.code
  obtain ⟨cl, cld, csl, hcell⟩ := T.cell
  obtain ⟨cdD, hD, hob⟩ := clsIn_of T.oex
  have KX := I.kIn
  have hki : ∀ x, X.env.kindOf x = List.lookup x F.scope.names := fun x => by rw [henv] <;> rfl
  have hkind : X.env.scope.kind = .function := I.ok.kind
  obtain ⟨oD, hD1, hD2⟩ : ∃ oD, s.heap.get? D = some oD ∧ oD.data = .cls cdD := by
    unfold PySem.W.clsIn at hD
    split at hD
    · rename_i c d cd' sl ho
      cases hD
      exact ⟨_, KX _ _ ho, rfl⟩
    · cases hD
  obtain ⟨t1, ho⟩ := exo_at I.hok ea
  have hxD : a ≠ D := by
    rintro rfl
    rw [ho] at hD1
    cases hD1
    cases hD2
  refine ks_wpAt_Expr_any (ks_wpAt_MethodCall (pl := pl) ?_ hev) (by simp [interactive, hkind]) hsw
  have hcells : X.env.cells = [(("__class__" : Str), cc)] := by rw [henv]; exact T.cl
  refine ks_wpAt_super_base (f := f) (cc := cda) (of := ⟨oc, od, .func (PySem.W.fnX F.name F.qual F.params F.body F.scope F.cl .none kV doc pm an (.ref cda) ct), osl⟩) (oc := ⟨ccl, cdd, .fields vs, ccs⟩)
    (by rw [hki]; exact hks) (by rw [hki]; exact hkc) (by decide +kernel) (by rw [henv] <;> rfl) (KX _ _ hfn) rfl hp (by rw [henv, ← T.cdF] <;> rfl) (KX _ _ hcode) rfl hvs hfile T.top ?_
  obtain ⟨mb, hb1, hb2⟩ := I.mod.blt
  refine PySem.W.ks_loadName_global hkind (by rw [hki]; exact hks) (PySem.Calls.loadGlobal_builtin (by rw [I.ok.glob]; exact I.mod.glob.keeps I.bk) T.noSuper (by rw [I.ok.blt]; exact hb1.keeps I.bk) ((hb2 _ (by decide)).trans (by decide +kernel : bootBuiltins ("super" : Str) = some (.type "super"))) ⟨rfl, ?_⟩)
  refine wpAny_loadName_free hkind (by rw [hki]; exact hkc) (by rw [hcells]; rfl) ⟨_, KX _ _ hcell, rfl⟩ ?_
  obtain ⟨m, hn, hl⟩ := I.loc
  obtain ⟨u, ru, lk⟩ := hl 0 ar.arg (.ref a) hN e0 (by rw [henv]; exact Or.inl hka)
  obtain rfl : u = Value.ref a := ru
  have hm : m ar.arg = some (.ref a) := by
    rcases lk with ⟨_, z⟩ | ⟨z, _⟩
    · exact z
    · rw [hki, hka] at z
      rcases z with z | z <;> cases z
  refine wpAny_loadName_local hkind (by rw [hki]; exact hka) hn hm ?_
  obtain ⟨hh, g, d, t, os⟩ := s
  refine ks_wpAny_isType_cls hD1 hD2 ⟨rfl, ?_⟩
  refine ks_wpAny_call_super hD1 hD2 ho rfl (fun c e => by cases e) (PySem.W.looks_mroIn KX T.mD) (fun h' hso kp => ?_)
  -- the super object stands at so; now its __init__
  have I1 : Inv X pins σ H ⟨h', g, d, t, os⟩ := I.kept (t' := t) kp
  have KX1 := I1.kIn
  have ho1 := kp _ _ ho
  have hB : PySem.W.Looks (model X.prog X.w) h' (isInstance (.ref a) (.type "ValueError")) true :=
    (PySem.W.InstAt.type (x := a) (ox := HandSPX.excO D t1) (C := D) (od := none) ⟨ho1, rfl, rfl, trivial⟩).andThen (PySem.W.looks_subIn KX1 T.vE)
  have hf := T.sup
  unfold PySem.W.ks_superIn at hf
  rw [hD] at hf
  refine PySem.W.kxs_getMethod (K := X.K) PySem.W.kxs_ValueError hso (PySem.W.looks_opaque KX1 T.th) (l₀ := cdD.mro) ?_ rfl KX1 hf hB hxD (by decide +kernel) ?_
  · exact fun A Q E s k q => wpAny_bind ((PySem.W.looks_clsIn KX1 hD) A _ E s k (wpAny_pure q))
  -- the arguments
  have kp2 : ∀ b u, h'.get? b = some u → (h'.push (PySem.W.kxs_mw "ValueError.__init__" a)).get? b = some u := fun b u e => Heap.get?_push_of_some _ e
  have I2 : Inv X pins σ H ⟨h'.push (PySem.W.kxs_mw "ValueError.__init__" a), g, d, t + 1, os⟩ := I1.kept (t' := t + 1) kp2
  have hu : (h'.push (PySem.W.kxs_mw "ValueError.__init__" a)).get? h'.objs.size = some (PySem.W.kxs_mw "ValueError.__init__" a) := Heap.get?_push_size _ rfl
  have I3 : Inv X (pins ++ [(h'.objs.size, PySem.W.kxs_mw "ValueError.__init__" a)]) σ H ⟨h'.push (PySem.W.kxs_mw "ValueError.__init__" a), g, d, t + 1, os⟩ := by
    refine I2.pins_of fun p hp => ?_
    rcases List.mem_append.mp hp with hp | hp
    · exact I2.pin p (List.mem_append_right _ hp)
    · rw [List.mem_singleton] at hp
      subst hp
      refine ⟨hu, I1.hok.fresh (Nat.le_refl _), ?_, I1.nofs (Nat.le_refl _), fun v z => by cases z⟩
      exact fun z => absurd (I1.lt) (by rw [← z]; exact Nat.lt_irrefl _)
  refine PySem.W.kxs_callWith (i := "ValueError.__init__") (x := a) hpl (hst _ _ _ (thn (ha.run p3 _ _ σ H _ I3 h) fun us s1 ⟨vs1, H1, J, r1, hz, ea1, q⟩ => ?_))
  have hu1 := (J.pin (h'.objs.size, PySem.W.kxs_mw "ValueError.__init__" a) (by simp)).1
  refine ⟨hu1, ?_⟩
  have J0 : Inv X pins σ H1 s1 := J.pins_of fun p hp => J.pin p (List.mem_append_right _ (List.mem_append_left _ hp))
  obtain ⟨t2, ho2⟩ := exo_at J.hok ea1
  obtain ⟨h1, g1, d1, tk1, os1⟩ := s1
  have hlen : us.length ≤ sizeLine := by
    rw [← Paired.length r1, sizeLine_eq]
    omega
  refine bw_call T.oex J.kIn ho2 hu1 hlen fun h2 t3 k hx => ⟨rfl, H1, ?_, q⟩
  have W := J0.write (t' := tk1) (x := a) (e := a) (o := exo a D none) (by rw [ea1]; exact True.intro) (.inl rfl) k ⟨_, hx⟩ (exo_ok hx)
  have eu : upd H1 a (exo a D none) = H1 := by
    funext b
    by_cases hb : b = a
    · rw [hb, upd_same, ea1]
    · rw [upd_ne hb]
  rw [eu] at W
  exact W
end

section
variable {CX : CXT} {P : Program} {w : World} {K : PySem.W.Frag} {mg : Str → Option Value} {base : Heap} {k : Nat} {D f cda cc : Addr} {F : NF} {fd : FuncData} {N ps : List Str} {sp : Sp} {es : List Expr} {rest : List Stmt} {p0 p1 p2 p3 p4 : Pos} {ar : Arg}
abbrev sfr : List Str := [("__class__" : Str)]
abbrev st0 (N : List Str) (vs : List V) : L2.St := startF N vs [none]
/-- THE RULE: an exception's __init__ that begins with super().__init__(..) -/
theorem ok_sup (T : SupT P K mg D f cda cc F fd) (S : NScope N ps sfr F.scope) (hbody : F.body = .Expr (.Call (.Attribute (.Call (.Name "super" p0) [] [] p1) "__init__" p2) es [] p3) p4 :: rest)
    (hks : F.scope.names.lookup ("super" : Str) = some .globalImplicit) (hp : (F.params.posonlyargs ++ F.params.args).head? = some ar) (hps : ps[0]? = some ar.arg)
    (len : ∀ vs H Q E, sp vs H Q E → vs.length = ps.length)
    (hb : ∀ (A : Around) (outer : List Env) (s : Shared) (H : Hp) (vs : List V) (Q : VK) (E : XK), Room k (A.deeper (envF F f s.heap.objs.size)) → sp vs H Q E →
      ∃ (a : Addr) (ta : TA) (t : TS) (pl : Sem Bool), PA (ncx CX P w K mg base N F f A outer s H E) es ta ∧ PSs (ncx CX P w K mg base N F f A outer s H E) rest t ∧
        (backTo p3 (starEach es (envF F f s.heap.objs.size))).any (·.1) = false ∧
        (∀ (M : Model) (B : Around) (u : Value) (Q' : Args → Shared → Prop) (E' : Value → Shared → Prop) (s' : Shared), wpAny M B (spliced (backTo p3 (starEach es (envF F f s.heap.objs.size)))) (fun vs s₁ => Q' ⟨vs, []⟩ s₁) E' s' → wpAny M B (evalArgs u true (backTo p3 (starEach es (envF F f s.heap.objs.size))) []) Q' E' s') ∧
        eval (.Call (.Attribute (.Call (.Name "super" p0) [] [] p1) "__init__" p2) es [] p3) (envF F f s.heap.objs.size) = (do
          let ov ← attributeBase (.Call (.Name "super" p0) [] [] p1) "__init__" (envF F f s.heap.objs.size) (eval (.Call (.Name "super" p0) [] [] p1) (envF F f s.heap.objs.size))
          standAt p2.atName
          let (g, first) ← holding [ov] (getMethod ov "__init__" pl)
          callWith p3 g first (backTo p3 (starEach es (envF F f s.heap.objs.size))) []) ∧
        swapsWith (.Call (.Attribute (.Call (.Name "super" p0) [] [] p1) "__init__" p2) es [] p3) none p4.line (envF F f s.heap.objs.size) = pure false ∧
        vs[0]? = some (.ref a) ∧ H a = some (exo a D none) ∧ ta (st0 N vs) H fun ws H1 => ws.length ≤ 1000 ∧ H1 a = some (exo a D none) ∧ t { nx := fun _ H' => Q .non H', rt := Q } (st0 N vs) H1) :
    FnOk P w K mg base CX (k + 1) f fd ps sp := by
  refine ⟨len, fun A outer s H args us vs Q E hr e0 hbd r hsp => ?_⟩
  have hl := len _ _ _ _ hsp
  have KX : K.In s.heap := e0.mod.kin.keeps fun b o e => (e0.bs b o e).1
  have lim : s.heap.NoLimit := e0.mod.nolimit.keeps fun b o e => (e0.bs b o e).1
  obtain ⟨oc, kV, doc, pm, ct, od, an, osl, efd, hfn⟩ := T.fn
  obtain ⟨cl, cld, csl, hcell⟩ := T.cell
  have hcc := KX _ _ hcell
  have hHc : H cc = none := (e0.bs _ _ (e0.mod.kin _ _ hcell)).2
  have C : CellsAt F.cl sfr [none] s.heap H := by
    rw [T.cl]
    refine ⟨rfl, fun y c e => ?_, fun x y c e1 e2 => ?_, fun i y hy => ?_⟩
    · have ec : c = cc := by
        simp only [List.lookup] at e
        split at e
        · exact (Option.some.inj e).symm
        · cases e
      subst ec
      exact ⟨hHc, _, _, hcc, rfl⟩
    · have key : ∀ {z : Str}, List.lookup z [(("__class__" : Str), cc)] = some c → z = ("__class__" : Str) := fun {z} e => by
        simp only [List.lookup] at e
        split at e
        · rename_i q
          exact eq_of_beq q
        · cases e
      rw [key e1, key e2]
    · cases i with
      | zero =>
        have hy' : some ("__class__" : Str) = some y := hy
        cases hy'
        exact ⟨cc, by simp [List.lookup], fun v e => by cases e⟩
      | succ i =>
        have : sfr[i + 1]? = none := rfl
        rw [this] at hy
        cases hy
  have hka : F.scope.names.lookup ar.arg = some .local := S.par _ (List.mem_of_getElem? hps)
  have hkc : F.scope.names.lookup ("__class__" : Str) = some .free := S.frk _ (by simp)
  have hN : N[0]? = some ar.arg := by
    have q : (ps ++ sfr)[0]? = some ar.arg := by
      rw [List.getElem?_append_left (List.getElem?_eq_some_iff.mp hps).1]
      exact hps
    rw [← S.pre, List.getElem?_take_of_lt (by have := (List.getElem?_eq_some_iff.mp hps).1; omega)] at q
    exact q
  subst efd
  refine PySem.ks_codeAny_call_defAt (fd := PySem.W.fnX F.name F.qual F.params F.body F.scope F.cl .none kV doc pm an (.ref cda) ct) (body := F.body) hr.depth (KX _ _ hfn) rfl lim (PySem.W.codeRec_of KX T.codeR) rfl hbd S.nocell (fun ⟨n, _⟩ hy => S.par n (List.of_mem_zip hy).1) (fun h₁ hns kp => ?_) S.co S.gen S.kind
  obtain ⟨a, ta, t, pl, hPA, hPS, hpl, hst, hev, hsw, ea, eH, hq⟩ := hb A outer s H vs Q E (hr.deeper _) hsp
  have I : Inv (ncx CX P w K mg base N F f A outer s H E) [] (startF N vs [none]) H { s with heap := h₁, toks := s.toks + (ps.zip us).length } := inv_startN S hr.hd e0 hl r C hns kp
  have eenv : PySem.callEnv (PySem.W.fnX F.name F.qual F.params F.body F.scope F.cl .none kV doc pm an (.ref cda) ct) s.heap.objs.size f = envF F f s.heap.objs.size := by
    rw [← T.cdF]
    rfl
  rw [eenv]
  have fin : ∀ {s' : Shared} {σ' : L2.St} {H' : Hp} {v : V} {u : Value}, Inv (ncx CX P w K mg base N F f A outer s H E) [] σ' H' s' → L2.RelV v u → Q v H' → CE outer P w H s Q u s' :=
    fun {s' σ' H' v u} J rv q => ⟨v, H', J.os, J.bare, J.base, J.hok, rv, q⟩
  rw [hbody]
  have e0' : (startF N vs [none])[0]? = some (some (V.ref a)) := by
    unfold startF
    have hi := (List.getElem?_eq_some_iff.mp ea).1
    rw [List.getElem?_append_left (by rw [List.length_map]; exact hi), List.getElem?_map, ea]
    rfl
  have first := sup_stmt (X := ncx CX P w K mg base N F f A outer s H E) (body := F.body) (pl := pl) T rfl hks hkc hp hka hN hPA hpl (fun u Q' s' z => hst _ _ u Q' _ s' z) hev hsw I e0' eH hq
  rw [hbody] at first
  refine PySem.ks_wpAt_execs_cons (PySem.ks_wpAt_mono first (fun fl s' hs => ?_) fun e s' hs => hs)
  obtain ⟨rfl, H1, J, q⟩ := hs
  refine PySem.wpAt_of_wpAny (wpAny_mono (hPS.run [] s' _ H1 _ J q) (fun fl s2 hs => ?_) fun e s2 hs => hs)
  cases fl with
  | ret u =>
    obtain ⟨v, σ', H', J, rv, q⟩ := hs
    exact fin J rv q
  | next =>
    obtain ⟨σ', H', J, q⟩ := hs
    exact fin (v := V.non) (u := Value.none) J rfl q
  | brk =>
    obtain ⟨_, _, _, q⟩ := hs
    exact False.elim q
  | cont =>
    obtain ⟨_, _, _, q⟩ := hs
    exact False.elim q
end
end SI

/-! Rules of our own over the hand layer: a comparison by an own method, isinstance of a caught error that has fields, an instance made within a try. -/
namespace CM
open PySem PySem.Spec PyProof.Rows L2
section
variable {X : Cx} {CX : CXT} {pins : List (Addr × Obj)} {σ : L2.St} {H : Hp} {s : Shared} {a C g : Addr} {n : Nat} {sp : Sp} {E : XK}
/-- x op y, both instances of the class at C, whose own def for op is at g -/
def rOwnI (C : Addr) (sp : Sp) (E : XK) : R2 := fun x y H Q => ∃ a dx fs b dy gs, x = .ref a ∧ y = .ref b ∧ H a = some (.ins C dx fs) ∧ H b = some (.ins C dy gs) ∧ sp [x, y] H Q E
theorem op_ownI {op : CmpOp} (hop : ∀ a b, compareOp op a b = richCompare op a b) (hs : PySem.W.findIn X.K (.ref C) (cmpInfo op).2.1 = some (some (.ref g))) (hf : PySem.W.isFn X.K (.ref g) = true) (F : FnR X.prog X.w X.K X.mg X.base CX n g sp)
    (hr : Room n X.A) (hx : Passes CX X E) : OpR X (compareOp op) (rOwnI C sp E) := by
  intro pins s σ H x y v u Q I rx ry h
  obtain ⟨a, dx, fs, b, dy, gs, rfl, rfl, ha, hb, q⟩ := h
  cases (show v = Value.ref a from rx)
  cases (show u = Value.ref b from ry)
  obtain ⟨mA, O, _⟩ := ins_get I.hok ha
  obtain ⟨od, J, _⟩ := O.look
  obtain ⟨mB, O', _⟩ := ins_get I.hok hb
  obtain ⟨od', J', _⟩ := O'.look
  obtain ⟨m, hF⟩ := I.fr
  rw [hop]
  refine PySem.W.cmp_K (op := op) (tb := .ref C) hr.units0 hF I.ok.mod.kin J J'.type (by simp [PySem.W.notFirst]) hs hf ?_
  refine wpAny_mono (wpAny_call (run_fnR (us := [.ref a, .ref b]) (vs := [.ref a, .ref b]) F hr hx I (.cons rfl (.cons rfl .nil)) q)) (fun w s' z => ?_) fun _ _ x => x
  obtain ⟨z', H', I', rz, qz⟩ := z
  exact SlX.cmpback rz ⟨z', H', I', rz, qz⟩
end
/-- isinstance(e, c), e the exception that the suite holds (its class cls, its dict d), with fields of its own -/
def rIsD (K : PySem.W.Frag) (D a : Addr) (cls : Value) (d : Option Addr) : List V → Hp → VK → Prop := fun xs H Q => ∃ (c : V) (cv : Value) (b : Bool) (dd : Addr) (fs : List (Str × V)), xs = [.ref a, c] ∧ cls = .ref D ∧ d = some dd ∧ ClsV c cv ∧ PySem.W.kitOne K (.ref D) cv = some b ∧ H dd = some (.xd fs) ∧ Q (.bl b) H
theorem call_isD {X : Cx} {a D : Addr} {cls : Value} {d : Option Addr} {oe : Obj} {pn : List (Addr × Obj)} (C : ExcC X.K D) (hz : Zc cls d oe) (hf : ∃ vs, oe.data = .fields vs) : CallR (X.suite a ((a, oe) :: pn)) (.builtin "isinstance") (rIsD X.K D a cls d) := by
  intro pins s σ H xs us Q I r h
  obtain ⟨c, cv, b, dd, fs, rfl, rfl, rfl, hcv, e, ea, q⟩ := h
  cases r with
  | cons rx rr =>
    cases rr with
    | cons rt rr =>
      cases rr
      cases rx
      have ec := hcv.eq rt
      subst ec
      obtain ⟨hget, _⟩ := I.pin (a, oe) (List.mem_append.mpr (.inl List.mem_cons_self))
      obtain ⟨vs, hv⟩ := hf
      have hx : ObjOk X.prog X.w H s.heap dd (.xd fs) := I.hok dd _ ea
      obtain ⟨mA, hns, hr⟩ := hx
      obtain ⟨od, ho, hl⟩ := lookIn_ns hns
      have J : PySem.W.InstAt s.heap a oe D (some od) := ⟨hget, hz.1, by unfold PySem.W.notCls; rw [hv] <;> rfl, by rw [hz.2]; exact ho⟩
      have hcl : (PySem.W.clsIn X.K D).isSome = true := by
        obtain ⟨cd, hc, _⟩ := PySem.W.any_some C.hd
        rw [hc]
        rfl
      exact PySem.W.kia_one (PySem.W.kitx_exc hcl C.hg C.hk C.hs C.ha C.hn C.ht C.hm) I.kIn J e (fun z => by cases hcv <;> cases z) fun tk => ⟨.bl b, H, I.kept (t' := tk) fun _ _ z => z, rfl, q⟩
/-- an object that stands, behind a new one -/
theorem kp {H : Hp} {p q : Addr} {o o' : HO} (n : H p = none) (h : H q = some o) : upd H p o' q = some o := by
  rw [upd_ne (ne_of_none h n)]
  exact h
theorem same_new {H H' : Hp} {p : Addr} {o : HO} (s : Same H H') (n : H' p = none) : Same H (upd H' p o) := fun b o' h => kp n (s b o' h)
section
variable {X : Cx} {CX : CXT} {k : Nat} {f C : Addr} {fd : FuncData} {ps : List Str} {sp : Sp} {E : L2.St → XK} {x : Str} {p pos : Pos} {e : Expr} {es : List Expr} {t : TA} {ds : List Value} {dvs : List V}
/-- C(e, ..) whose __init__ may raise, within a try -/
def tMakeS (C : Addr) (sp : Sp) (dvs : List V) (E : L2.St → XK) (t : TA) : TE := fun σ H Q => t σ H fun vs H1 => ∀ x dx, H1 x = none → H1 dx = none → dx ≠ x →
  sp (.ref x :: (vs ++ dvs)) (upd (upd H1 dx (.own x)) x (.ins C dx [])) (fun v H2 => v = .non ∧ Q (.ref x) H2) (E σ)
theorem pe_makeS (M : Mk X.K C f) (F : FnOk X.prog X.w X.K X.mg X.base CX k f fd ps sp) (hr : Room (k + 1) X.A) (hg : Gl X x) (hm : X.mg x = some (.ref C)) (hb : Binds X.K fd ps ds) (hd : Vals dvs ds) (hx : ∀ σ, PassesAt CX X σ (E σ))
    (ha : PA X (e :: es) t) (hdb : (x == ("__debug__" : Str)) = false := by decide) (he : starEach (e :: es) X.env = (false, eval e X.env) :: starEach es X.env := by rfl) (hpl : (backTo pos (starEach es X.env)).any (·.1) = false := by rfl) :
    PE X (.Call (.Name x p) (e :: es) [] pos) (tMakeS C sp dvs E t) := by
  refine ⟨fun pins s σ H Q I h => ?_⟩
  refine wpAny_Call_Name_kw (ld_glob I hg hm ?_ hdb)
  refine PySem.W.callWith_K (h₀ := X.base) I.ok.mod.kin M.kp (thn (ha.run pos pins s σ H _ I h) fun us s1 ⟨vs, H1, I1, r, q⟩ => ⟨I1.kIn, ?_⟩) he hpl
  have hq := q (s1.heap.objs.size + 1) s1.heap.objs.size (I1.hok.fresh (Nat.le_succ _)) (I1.hok.fresh (Nat.le_refl _)) (Nat.ne_of_lt (Nat.lt_succ_self _))
  have I2 := Inv.made (C := C) I1
  have r2 : Vals (V.ref (s1.heap.objs.size + 1) :: (vs ++ dvs)) (Value.ref (s1.heap.objs.size + 1) :: (us ++ ds)) := .cons rfl (r.append hd)
  have hl : (Value.ref (s1.heap.objs.size + 1) :: us ++ ds).length = ps.length := by
    have e := r2.length
    rw [F.len _ _ _ _ hq] at e
    exact e.symm
  refine wpAny_call (make_map (f := f) I1.kIn M.makes M.init (beq_iff_eq.mp M.fn) (codeAny_mono (F.run _ X.stack _ _ ⟨Value.ref (s1.heap.objs.size + 1) :: us, []⟩ (Value.ref (s1.heap.objs.size + 1) :: (us ++ ds)) _ _ (E σ) (hr.make C us [])
    (I2.env0.make C us []) (hb _ (Value.ref (s1.heap.objs.size + 1) :: us) I2.kIn hl) r2 hq) fun r s' hq' => ?_))
  cases r with
  | error e => exact hx σ pins _ _ e s' I2 hq'
  | ok fl =>
    cases fl with
    | ret u =>
      obtain ⟨v, H', I3, rv, ev, q3⟩ := I2.after hq'
      subst ev
      exact ⟨rv, ⟨V.ref (s1.heap.objs.size + 1), H', I3, rfl, q3⟩⟩
    | next => exact False.elim hq'
    | brk => exact False.elim hq'
    | cont => exact False.elim hq'
end
end CM

namespace K02
open PySem L2
def top (i : Nat) : Stmt := PySem.Challenge.pw_stamprules_k02_place_of_an_asker.main.body.getD i (.Pass ⟨0, 0, 0, 0⟩)
abbrev s_BadStamp_init : Stmt := inClass (top 2) 0
abbrev s_Stamp_init : Stmt := inClass (top 6) 0
abbrev s_Stamp_eq : Stmt := inClass (top 6) 1
abbrev s_Stamp_ne : Stmt := inClass (top 6) 2
abbrev s_Stamp_lt : Stmt := inClass (top 6) 3
abbrev s_Stamp_le : Stmt := inClass (top 6) 4
abbrev s_Stamp_gt : Stmt := inClass (top 6) 5
abbrev s_Stamp_ge : Stmt := inClass (top 6) 6
abbrev s_is_stamp : Stmt := top 5
abbrev s_place : Stmt := top 7
abbrev s_law_cell : Stmt := top 9
abbrev s_law_told : Stmt := top 10
abbrev s_law : Stmt := top 11
/-- what isinstance asks of an own class -/
structure IsI (K : PySem.W.Frag) (C : Addr) : Prop where
  ha : PySem.W.findIn K (.ref C) "__class__" = some (some (.builtin "object.__class__"))
  hm : PySem.W.mroIn K C (.type "object") = some true
structure IsG (K : PySem.W.Frag) : Prop where
  hn : PySem.W.specialIn K (.builtin "object.__class__") "__get__" = some (some (.builtin "getset_descriptor.__get__"))
  ht : PySem.W.takesIn K (.builtin "object.__class__") = some true
/-- what the top has written -/
structure Txt (K : PySem.W.Frag) (mg : Str → Option Value) where
  isg : IsG K
  c_StampError : Addr
  g_StampError : mg "StampError" = some (.ref c_StampError)
  k_StampError : PySem.W.keepIn K (.ref c_StampError) = true
  c_BadStamp : Addr
  g_BadStamp : mg "BadStamp" = some (.ref c_BadStamp)
  k_BadStamp : PySem.W.keepIn K (.ref c_BadStamp) = true
  c_Stamp : Addr
  g_Stamp : mg "Stamp" = some (.ref c_Stamp)
  k_Stamp : PySem.W.keepIn K (.ref c_Stamp) = true
  oex_StampError : OexC K c_StampError
  excc_StampError : ExcC K c_StampError
  xfc_StampError : XfC K c_StampError
  exm_StampError_StampError : PySem.W.exmOne K (.ref c_StampError) (.ref c_StampError) = some true
  kit_StampError_StampError : PySem.W.kitOne K (.ref c_StampError) (.ref c_StampError) = some true
  exm_StampError_BadStamp : PySem.W.exmOne K (.ref c_StampError) (.ref c_BadStamp) = some false
  kit_StampError_BadStamp : PySem.W.kitOne K (.ref c_StampError) (.ref c_BadStamp) = some false
  kit_StampError_VE : PySem.W.kitOne K (.ref c_StampError) (.type "ValueError") = some true
  oex_BadStamp : OexC K c_BadStamp
  excc_BadStamp : ExcC K c_BadStamp
  xfc_BadStamp : XfC K c_BadStamp
  exm_BadStamp_StampError : PySem.W.exmOne K (.ref c_BadStamp) (.ref c_StampError) = some true
  kit_BadStamp_StampError : PySem.W.kitOne K (.ref c_BadStamp) (.ref c_StampError) = some true
  exm_BadStamp_BadStamp : PySem.W.exmOne K (.ref c_BadStamp) (.ref c_BadStamp) = some true
  kit_BadStamp_BadStamp : PySem.W.kitOne K (.ref c_BadStamp) (.ref c_BadStamp) = some true
  kit_BadStamp_VE : PySem.W.kitOne K (.ref c_BadStamp) (.type "ValueError") = some true
  na_BadStamp_given : NoAttr K c_BadStamp "given"
  cl_Stamp : Cls K c_Stamp
  isi_Stamp : IsI K c_Stamp
  kit_Stamp : PySem.W.kitOne K (.ref c_Stamp) (.ref c_Stamp) = some true
  na_Stamp_number : NoAttr K c_Stamp "number"
  f_BadStamp_init : Addr
  d_BadStamp_init : FuncData
  cc_BadStamp_init : Addr
  cdr_BadStamp_init : Addr
  S_BadStamp_init : SI.SupT PySem.Challenge.rw_stamprules_k02_place_of_an_asker.prog K mg c_BadStamp f_BadStamp_init cdr_BadStamp_init cc_BadStamp_init ⟨"__init__", "BadStamp.__init__", defArgs s_BadStamp_init, defBody s_BadStamp_init, defScope s_BadStamp_init, [(("__class__" : Str), cc_BadStamp_init)], cdr_BadStamp_init⟩ d_BadStamp_init
  i_BadStamp_init : PySem.W.findIn K (.ref c_BadStamp) "__init__" = some (some (.ref f_BadStamp_init))
  t_BadStamp_init : PySem.W.typeIn K (.ref f_BadStamp_init) = some (.type "function")
  f_Stamp_init : Addr
  d_Stamp_init : FuncData
  F_Stamp_init : Fun K "__init__" "Stamp.__init__" s_Stamp_init f_Stamp_init d_Stamp_init
  m_Stamp_init : Meth K c_Stamp "__init__" f_Stamp_init
  mk_Stamp : Mk K c_Stamp f_Stamp_init
  f_Stamp_eq : Addr
  d_Stamp_eq : FuncData
  F_Stamp_eq : Fun K "__eq__" "Stamp.__eq__" s_Stamp_eq f_Stamp_eq d_Stamp_eq
  m_Stamp_eq : Meth K c_Stamp "__eq__" f_Stamp_eq
  f_Stamp_ne : Addr
  d_Stamp_ne : FuncData
  F_Stamp_ne : Fun K "__ne__" "Stamp.__ne__" s_Stamp_ne f_Stamp_ne d_Stamp_ne
  m_Stamp_ne : Meth K c_Stamp "__ne__" f_Stamp_ne
  f_Stamp_lt : Addr
  d_Stamp_lt : FuncData
  F_Stamp_lt : Fun K "__lt__" "Stamp.__lt__" s_Stamp_lt f_Stamp_lt d_Stamp_lt
  m_Stamp_lt : Meth K c_Stamp "__lt__" f_Stamp_lt
  f_Stamp_le : Addr
  d_Stamp_le : FuncData
  F_Stamp_le : Fun K "__le__" "Stamp.__le__" s_Stamp_le f_Stamp_le d_Stamp_le
  m_Stamp_le : Meth K c_Stamp "__le__" f_Stamp_le
  f_Stamp_gt : Addr
  d_Stamp_gt : FuncData
  F_Stamp_gt : Fun K "__gt__" "Stamp.__gt__" s_Stamp_gt f_Stamp_gt d_Stamp_gt
  m_Stamp_gt : Meth K c_Stamp "__gt__" f_Stamp_gt
  f_Stamp_ge : Addr
  d_Stamp_ge : FuncData
  F_Stamp_ge : Fun K "__ge__" "Stamp.__ge__" s_Stamp_ge f_Stamp_ge d_Stamp_ge
  m_Stamp_ge : Meth K c_Stamp "__ge__" f_Stamp_ge
  f_is_stamp : Addr
  d_is_stamp : FuncData
  F_is_stamp : FunD K "is_stamp" "is_stamp" (defArgs s_is_stamp) (defBody s_is_stamp) (defScope s_is_stamp) [.int 0] [] f_is_stamp d_is_stamp
  g_is_stamp : mg "is_stamp" = some (.ref f_is_stamp)
  f_place : Addr
  d_place : FuncData
  F_place : Fun K "place" "place" s_place f_place d_place
  g_place : mg "place" = some (.ref f_place)
  f_law_cell : Addr
  d_law_cell : FuncData
  F_law_cell : Fun K "_law_cell" "_law_cell" s_law_cell f_law_cell d_law_cell
  g_law_cell : mg "_law_cell" = some (.ref f_law_cell)
  f_law_told : Addr
  d_law_told : FuncData
  F_law_told : Fun K "_law_told" "_law_told" s_law_told f_law_told d_law_told
  g_law_told : mg "_law_told" = some (.ref f_law_told)
  f_law : Addr
  d_law : FuncData
  F_law : Fun K "law" "law" s_law f_law d_law
  g_law : mg "law" = some (.ref f_law)
  g_GREATEST : ∃ t, mg "GREATEST" = some (.int 1000000000000000000000000000000 t)
  n_NotImplemented : mg "NotImplemented" = none
  n_ValueError : mg "ValueError" = none
  n_bool : mg "bool" = none
  n_int : mg "int" = none
  n_isinstance : mg "isinstance" = none
  n_len : mg "len" = none
  n_range : mg "range" = none
  n_str : mg "str" = none
  n_super : mg "super" = none
theorem sc_BadStamp_init : NdefX.NScope ["self", "given", "__class__"] ["self", "given"] SI.sfr (defScope s_BadStamp_init) := NdefX.nscope_by (by decide +kernel)
theorem sc_Stamp_init : FnScope ["self", "number"] ["self", "number"] (defScope s_Stamp_init) := ⟨rfl, rfl, rfl, by decide +kernel, rfl, by decide +kernel, by decide +kernel⟩
theorem sc_Stamp_eq : FnScope ["self", "other"] ["self", "other"] (defScope s_Stamp_eq) := ⟨rfl, rfl, rfl, by decide +kernel, rfl, by decide +kernel, by decide +kernel⟩
theorem sc_Stamp_ne : FnScope ["self", "other"] ["self", "other"] (defScope s_Stamp_ne) := ⟨rfl, rfl, rfl, by decide +kernel, rfl, by decide +kernel, by decide +kernel⟩
theorem sc_Stamp_lt : FnScope ["self", "other"] ["self", "other"] (defScope s_Stamp_lt) := ⟨rfl, rfl, rfl, by decide +kernel, rfl, by decide +kernel, by decide +kernel⟩
theorem sc_Stamp_le : FnScope ["self", "other"] ["self", "other"] (defScope s_Stamp_le) := ⟨rfl, rfl, rfl, by decide +kernel, rfl, by decide +kernel, by decide +kernel⟩
theorem sc_Stamp_gt : FnScope ["self", "other"] ["self", "other"] (defScope s_Stamp_gt) := ⟨rfl, rfl, rfl, by decide +kernel, rfl, by decide +kernel, by decide +kernel⟩
theorem sc_Stamp_ge : FnScope ["self", "other"] ["self", "other"] (defScope s_Stamp_ge) := ⟨rfl, rfl, rfl, by decide +kernel, rfl, by decide +kernel, by decide +kernel⟩
theorem sc_is_stamp : FnScope ["number", "least"] ["number", "least"] (defScope s_is_stamp) := ⟨rfl, rfl, rfl, by decide +kernel, rfl, by decide +kernel, by decide +kernel⟩
theorem sc_place : FnScope ["asker", "last", "holder"] ["asker", "last", "holder"] (defScope s_place) := ⟨rfl, rfl, rfl, by decide +kernel, rfl, by decide +kernel, by decide +kernel⟩
theorem sc_law_cell : FnScope ["_law_script", "_law_k"] ["_law_script", "_law_k"] (defScope s_law_cell) := ⟨rfl, rfl, rfl, by decide +kernel, rfl, by decide +kernel, by decide +kernel⟩
theorem sc_law_told : FnScope ["_law_asker", "_law_last", "_law_holder", "_law_due", "_law_actual"] ["_law_asker", "_law_last", "_law_holder", "_law_due"] (defScope s_law_told) := ⟨rfl, rfl, rfl, by decide +kernel, rfl, by decide +kernel, by decide +kernel⟩
theorem sc_law : FnScope ["_law_script", "_law_low", "_law_middle", "_law_high", "_law_zero", "_law_one", "_law_two", "_law_three", "_law_asks", "_law_turn", "_law_ask"] ["_law_script"] (defScope s_law) := ⟨rfl, rfl, rfl, by decide +kernel, rfl, by decide +kernel, by decide +kernel⟩
section
variable {K : PySem.W.Frag} {mg : Str → Option Value} (T : Txt K mg)
include T
theorem b_BadStamp_init : Binds K T.d_BadStamp_init ["self", "given"] [] := by
  obtain ⟨_, _, _, _, _, _, _, _, e, _⟩ := T.S_BadStamp_init.fn
  rw [e]
  exact .all fun us hl => match us, hl with | [_, _], _ => rfl
theorem b_Stamp_init : Binds K T.d_Stamp_init ["self", "number"] [] := T.F_Stamp_init.binds (ps := ["self", "number"]) fun _ _ _ _ _ _ us hl => match us, hl with | [_, _], _ => rfl
theorem b_Stamp_eq : Binds K T.d_Stamp_eq ["self", "other"] [] := T.F_Stamp_eq.binds (ps := ["self", "other"]) fun _ _ _ _ _ _ us hl => match us, hl with | [_, _], _ => rfl
theorem b_Stamp_ne : Binds K T.d_Stamp_ne ["self", "other"] [] := T.F_Stamp_ne.binds (ps := ["self", "other"]) fun _ _ _ _ _ _ us hl => match us, hl with | [_, _], _ => rfl
theorem b_Stamp_lt : Binds K T.d_Stamp_lt ["self", "other"] [] := T.F_Stamp_lt.binds (ps := ["self", "other"]) fun _ _ _ _ _ _ us hl => match us, hl with | [_, _], _ => rfl
theorem b_Stamp_le : Binds K T.d_Stamp_le ["self", "other"] [] := T.F_Stamp_le.binds (ps := ["self", "other"]) fun _ _ _ _ _ _ us hl => match us, hl with | [_, _], _ => rfl
theorem b_Stamp_gt : Binds K T.d_Stamp_gt ["self", "other"] [] := T.F_Stamp_gt.binds (ps := ["self", "other"]) fun _ _ _ _ _ _ us hl => match us, hl with | [_, _], _ => rfl
theorem b_Stamp_ge : Binds K T.d_Stamp_ge ["self", "other"] [] := T.F_Stamp_ge.binds (ps := ["self", "other"]) fun _ _ _ _ _ _ us hl => match us, hl with | [_, _], _ => rfl
theorem b0_is_stamp : ∃ ds, Vals [] ds ∧ Binds K T.d_is_stamp ["number", "least"] ds := T.F_is_stamp.binds1 2 1 (by simp) rfl fun _ _ _ _ _ _ _ us its hu hi => match us, hu, its, hi with | [_, _], _, [_], _ => ⟨_, rfl, rfl⟩
theorem b1_is_stamp : ∃ ds, Vals [.int 0] ds ∧ Binds K T.d_is_stamp ["number", "least"] ds := T.F_is_stamp.binds1 1 0 (by simp) rfl fun _ _ _ _ _ _ _ us its hu hi => match us, hu, its, hi with | [_], _, [_], _ => ⟨_, rfl, rfl⟩
theorem b_place : Binds K T.d_place ["asker", "last", "holder"] [] := T.F_place.binds (ps := ["asker", "last", "holder"]) fun _ _ _ _ _ _ us hl => match us, hl with | [_, _, _], _ => rfl
theorem b_law_cell : Binds K T.d_law_cell ["_law_script", "_law_k"] [] := T.F_law_cell.binds (ps := ["_law_script", "_law_k"]) fun _ _ _ _ _ _ us hl => match us, hl with | [_, _], _ => rfl
theorem b_law_told : Binds K T.d_law_told ["_law_asker", "_law_last", "_law_holder", "_law_due"] [] := T.F_law_told.binds (ps := ["_law_asker", "_law_last", "_law_holder", "_law_due"]) fun _ _ _ _ _ _ us hl => match us, hl with | [_, _, _, _], _ => rfl
theorem b_law : Binds K T.d_law ["_law_script"] [] := T.F_law.binds (ps := ["_law_script"]) fun _ _ _ _ _ _ us hl => match us, hl with | [_], _ => rfl
end
theorem all_mk {w : World} {K : PySem.W.Frag} {h : Heap} {mg : Str → Option Value} {fa c_StampError c_BadStamp c_Stamp f_BadStamp_init f_Stamp_init f_Stamp_eq f_Stamp_ne f_Stamp_lt f_Stamp_le f_Stamp_gt f_Stamp_ge f_is_stamp f_place f_law_cell f_law_told f_law : Addr} (X : K.In h) (G : h.Ns mainGlobals mg) (hfa : mg "law" = some (.ref fa))
    {nm_StampError q_StampError : Str} {N_StampError : Addr} {bs_StampError : List Value} {sn_StampError : List Str} {sub_StampError : List Value} {ab_StampError : Bool} {col_StampError : Option Bool} {dd_StampError : Option Addr} {m0_StampError m1_StampError m2_StampError m3_StampError m5_StampError : Option Value}
    {nm_BadStamp q_BadStamp : Str} {N_BadStamp : Addr} {bs_BadStamp : List Value} {sn_BadStamp : List Str} {sub_BadStamp : List Value} {ab_BadStamp : Bool} {col_BadStamp : Option Bool} {dd_BadStamp : Option Addr} {m0_BadStamp m1_BadStamp m2_BadStamp m3_BadStamp m5_BadStamp : Option Value}
    {od_BadStamp_init an_BadStamp_init : Option Addr} {sl_BadStamp_init : Array (Option Value)} {oc_BadStamp_init kV_BadStamp_init dc_BadStamp_init pm_BadStamp_init ct_BadStamp_init : Value}
    {cc_BadStamp_init cdr_BadStamp_init : Addr} {ccl_BadStamp_init cdo_BadStamp_init : Value} {cdd_BadStamp_init cod_BadStamp_init : Option Addr} {ccs_BadStamp_init cos_BadStamp_init : Array (Option Value)} {cvs_BadStamp_init : Array Value} {cfile_BadStamp_init : Str} {ctk_BadStamp_init : Tok}
    {od_Stamp_init an_Stamp_init : Option Addr} {sl_Stamp_init : Array (Option Value)} {oc_Stamp_init kV_Stamp_init dc_Stamp_init pm_Stamp_init ct_Stamp_init : Value}
    {cd_Stamp_init : Value}
    {od_Stamp_eq an_Stamp_eq : Option Addr} {sl_Stamp_eq : Array (Option Value)} {oc_Stamp_eq kV_Stamp_eq dc_Stamp_eq pm_Stamp_eq ct_Stamp_eq : Value}
    {cd_Stamp_eq : Value}
    {od_Stamp_ne an_Stamp_ne : Option Addr} {sl_Stamp_ne : Array (Option Value)} {oc_Stamp_ne kV_Stamp_ne dc_Stamp_ne pm_Stamp_ne ct_Stamp_ne : Value}
    {cd_Stamp_ne : Value}
    {od_Stamp_lt an_Stamp_lt : Option Addr} {sl_Stamp_lt : Array (Option Value)} {oc_Stamp_lt kV_Stamp_lt dc_Stamp_lt pm_Stamp_lt ct_Stamp_lt : Value}
    {cd_Stamp_lt : Value}
    {od_Stamp_le an_Stamp_le : Option Addr} {sl_Stamp_le : Array (Option Value)} {oc_Stamp_le kV_Stamp_le dc_Stamp_le pm_Stamp_le ct_Stamp_le : Value}
    {cd_Stamp_le : Value}
    {od_Stamp_gt an_Stamp_gt : Option Addr} {sl_Stamp_gt : Array (Option Value)} {oc_Stamp_gt kV_Stamp_gt dc_Stamp_gt pm_Stamp_gt ct_Stamp_gt : Value}
    {cd_Stamp_gt : Value}
    {od_Stamp_ge an_Stamp_ge : Option Addr} {sl_Stamp_ge : Array (Option Value)} {oc_Stamp_ge kV_Stamp_ge dc_Stamp_ge pm_Stamp_ge ct_Stamp_ge : Value}
    {cd_Stamp_ge : Value}
    {od_is_stamp an_is_stamp : Option Addr} {sl_is_stamp : Array (Option Value)} {oc_is_stamp kV_is_stamp dc_is_stamp pm_is_stamp ct_is_stamp : Value}
    {cd_is_stamp : Value}
    {T_is_stamp : Addr} {Tn_is_stamp : Nat}
    {tk0_is_stamp : Tok}
    {Tc_is_stamp : Value} {Td_is_stamp : Option Addr} {Ts_is_stamp : Array (Option Value)}
    {od_place an_place : Option Addr} {sl_place : Array (Option Value)} {oc_place kV_place dc_place pm_place ct_place : Value}
    {cd_place : Value}
    {od_law_cell an_law_cell : Option Addr} {sl_law_cell : Array (Option Value)} {oc_law_cell kV_law_cell dc_law_cell pm_law_cell ct_law_cell : Value}
    {cd_law_cell : Value}
    {od_law_told an_law_told : Option Addr} {sl_law_told : Array (Option Value)} {oc_law_told kV_law_told dc_law_told pm_law_told ct_law_told : Value}
    {cd_law_told : Value}
    {od_law an_law : Option Addr} {sl_law : Array (Option Value)} {oc_law kV_law dc_law pm_law ct_law : Value}
    {cd_law : Value}
    {tk_GREATEST : Tok}
    (z_hn : PySem.W.specialIn K (.builtin "object.__class__") "__get__" = some (some (.builtin "getset_descriptor.__get__")))
    (z_ht : PySem.W.takesIn K (.builtin "object.__class__") = some true)
    (gc_StampError : PySem.W.nsIn K mainGlobals "StampError" = some (some (.ref c_StampError)))
    (kc_StampError : PySem.W.keepIn K (.ref c_StampError) = true)
    (gc_BadStamp : PySem.W.nsIn K mainGlobals "BadStamp" = some (some (.ref c_BadStamp)))
    (kc_BadStamp : PySem.W.keepIn K (.ref c_BadStamp) = true)
    (gc_Stamp : PySem.W.nsIn K mainGlobals "Stamp" = some (some (.ref c_Stamp)))
    (kc_Stamp : PySem.W.keepIn K (.ref c_Stamp) = true)
    (xl_StampError : K.lookup c_StampError = some (excClassObj nm_StampError q_StampError c_StampError N_StampError bs_StampError [.type "ValueError", .type "Exception", .type "BaseException", .type "object"] true sn_StampError sub_StampError ab_StampError col_StampError dd_StampError m0_StampError m1_StampError m2_StampError m3_StampError m5_StampError "ValueError.__new__"))
    (sa_StampError : PySem.W.findIn K (.ref c_StampError) "__setattr__" = some (some (.builtin "object.__setattr__")))
    (xb_StampError : PySem.W.subIn K (.ref c_StampError) (.type "BaseException") = some true)
    (xt_StampError : PySem.W.typeIn K (.ref c_StampError) = some (.type "type"))
    (ga_StampError : PySem.W.findIn K (.ref c_StampError) "__getattribute__" = some (some (.builtin "BaseException.__getattribute__")))
    (gg_StampError : PySem.W.findIn K (.ref c_StampError) "__getattr__" = some none)
    (hd_StampError : PySem.W.hasDictIn K c_StampError = true)
    (ha_StampError : PySem.W.findIn K (.ref c_StampError) "__class__" = some (some (.builtin "object.__class__")))
    (hm_StampError : PySem.W.mroIn K c_StampError (.type "object") = some true)
    (sb_StampError_StampError : PySem.W.subIn K (.ref c_StampError) (.ref c_StampError) = some true)
    (ko_StampError_StampError : PySem.W.kitOne K (.ref c_StampError) (.ref c_StampError) = some true)
    (sb_StampError_BadStamp : PySem.W.subIn K (.ref c_StampError) (.ref c_BadStamp) = some false)
    (ko_StampError_BadStamp : PySem.W.kitOne K (.ref c_StampError) (.ref c_BadStamp) = some false)
    (kv_StampError : PySem.W.kitOne K (.ref c_StampError) (.type "ValueError") = some true)
    (xl_BadStamp : K.lookup c_BadStamp = some (excClassObj nm_BadStamp q_BadStamp c_BadStamp N_BadStamp bs_BadStamp [.ref c_StampError, .type "ValueError", .type "Exception", .type "BaseException", .type "object"] true sn_BadStamp sub_BadStamp ab_BadStamp col_BadStamp dd_BadStamp m0_BadStamp m1_BadStamp m2_BadStamp m3_BadStamp m5_BadStamp "ValueError.__new__"))
    (sa_BadStamp : PySem.W.findIn K (.ref c_BadStamp) "__setattr__" = some (some (.builtin "object.__setattr__")))
    (xb_BadStamp : PySem.W.subIn K (.ref c_BadStamp) (.type "BaseException") = some true)
    (xt_BadStamp : PySem.W.typeIn K (.ref c_BadStamp) = some (.type "type"))
    (ga_BadStamp : PySem.W.findIn K (.ref c_BadStamp) "__getattribute__" = some (some (.builtin "BaseException.__getattribute__")))
    (gg_BadStamp : PySem.W.findIn K (.ref c_BadStamp) "__getattr__" = some none)
    (hd_BadStamp : PySem.W.hasDictIn K c_BadStamp = true)
    (ha_BadStamp : PySem.W.findIn K (.ref c_BadStamp) "__class__" = some (some (.builtin "object.__class__")))
    (hm_BadStamp : PySem.W.mroIn K c_BadStamp (.type "object") = some true)
    (sb_BadStamp_StampError : PySem.W.subIn K (.ref c_BadStamp) (.ref c_StampError) = some true)
    (ko_BadStamp_StampError : PySem.W.kitOne K (.ref c_BadStamp) (.ref c_StampError) = some true)
    (sb_BadStamp_BadStamp : PySem.W.subIn K (.ref c_BadStamp) (.ref c_BadStamp) = some true)
    (ko_BadStamp_BadStamp : PySem.W.kitOne K (.ref c_BadStamp) (.ref c_BadStamp) = some true)
    (kv_BadStamp : PySem.W.kitOne K (.ref c_BadStamp) (.type "ValueError") = some true)
    (na_BadStamp_given : PySem.W.findIn K (.ref c_BadStamp) "given" = some none)
    (pg_Stamp : PySem.W.plainGet K c_Stamp Str.empty = true)
    (hd_Stamp : PySem.W.hasDictIn K c_Stamp = true)
    (po_Stamp : PySem.W.plainOver K c_Stamp = true)
    (sa_Stamp : PySem.W.findIn K (.ref c_Stamp) "__setattr__" = some (some (.builtin "object.__setattr__")))
    (mk_Stamp : PySem.W.makesIn K c_Stamp = true)
    (ha_Stamp : PySem.W.findIn K (.ref c_Stamp) "__class__" = some (some (.builtin "object.__class__")))
    (hm_Stamp : PySem.W.mroIn K c_Stamp (.type "object") = some true)
    (ko_Stamp : PySem.W.kitOne K (.ref c_Stamp) (.ref c_Stamp) = some true)
    (na_Stamp_number : PySem.W.findIn K (.ref c_Stamp) "number" = some none)
    (a_BadStamp_init : PySem.W.findIn K (.ref c_BadStamp) "__init__" = some (some (.ref f_BadStamp_init)))
    (l_BadStamp_init : K.lookup f_BadStamp_init = some ⟨oc_BadStamp_init, od_BadStamp_init, .func (PySem.W.fnX "__init__" "BadStamp.__init__" (defArgs s_BadStamp_init) (defBody s_BadStamp_init) (defScope s_BadStamp_init) [(("__class__" : Str), cc_BadStamp_init)] .none kV_BadStamp_init dc_BadStamp_init pm_BadStamp_init an_BadStamp_init (.ref cdr_BadStamp_init) ct_BadStamp_init), sl_BadStamp_init⟩)
    (c_BadStamp_init : PySem.W.codeIn K (.ref cdr_BadStamp_init) "BadStamp.__init__" = true)
    (cl_BadStamp_init : K.lookup cc_BadStamp_init = some ⟨ccl_BadStamp_init, cdd_BadStamp_init, .cell (some (.ref c_BadStamp)), ccs_BadStamp_init⟩)
    (cv_BadStamp_init : K.lookup cdr_BadStamp_init = some ⟨cdo_BadStamp_init, cod_BadStamp_init, .fields cvs_BadStamp_init, cos_BadStamp_init⟩)
    (cw_BadStamp_init : cvs_BadStamp_init[2]? = some (.str cfile_BadStamp_init ctk_BadStamp_init))
    (cx_BadStamp_init : ((PySem.Challenge.rw_stamprules_k02_place_of_an_asker.prog.main.file : Str) == cfile_BadStamp_init) = true)
    (tp_BadStamp_init : (PySem.Challenge.rw_stamprules_k02_place_of_an_asker.prog.main.scope.names.lookup ("super" : Str)).isSome = false)
    (su_BadStamp_init : PySem.W.ks_superIn K c_BadStamp c_BadStamp "__init__" = some (some (.builtin "ValueError.__init__")))
    (ve_BadStamp_init : PySem.W.subIn K (.ref c_BadStamp) (.type "ValueError") = some true)
    (md_BadStamp_init : PySem.W.mroIn K c_BadStamp (.ref c_BadStamp) = some true)
    (ti_BadStamp_init : PySem.W.typeIn K (.ref f_BadStamp_init) = some (.type "function"))
    (z_th : PySem.W.nsIn K cStatics "thirdparty.any" = some none)
    (z_su : PySem.W.nsIn K mainGlobals "super" = some none)
    (a_Stamp_init : PySem.W.findIn K (.ref c_Stamp) "__init__" = some (some (.ref f_Stamp_init)))
    (l_Stamp_init : K.lookup f_Stamp_init = some ⟨oc_Stamp_init, od_Stamp_init, .func (PySem.W.fnOf "__init__" "Stamp.__init__" (defArgs s_Stamp_init) (defBody s_Stamp_init) (defScope s_Stamp_init) .none kV_Stamp_init dc_Stamp_init pm_Stamp_init an_Stamp_init cd_Stamp_init ct_Stamp_init), sl_Stamp_init⟩)
    (c_Stamp_init : PySem.W.codeIn K cd_Stamp_init "Stamp.__init__" = true)
    (k_Stamp_init : PySem.W.keepIn K (.ref f_Stamp_init) = true)
    (fn_Stamp_init : PySem.W.isFn K (.ref f_Stamp_init) = true)
    (a_Stamp_eq : PySem.W.findIn K (.ref c_Stamp) "__eq__" = some (some (.ref f_Stamp_eq)))
    (l_Stamp_eq : K.lookup f_Stamp_eq = some ⟨oc_Stamp_eq, od_Stamp_eq, .func (PySem.W.fnOf "__eq__" "Stamp.__eq__" (defArgs s_Stamp_eq) (defBody s_Stamp_eq) (defScope s_Stamp_eq) .none kV_Stamp_eq dc_Stamp_eq pm_Stamp_eq an_Stamp_eq cd_Stamp_eq ct_Stamp_eq), sl_Stamp_eq⟩)
    (c_Stamp_eq : PySem.W.codeIn K cd_Stamp_eq "Stamp.__eq__" = true)
    (k_Stamp_eq : PySem.W.keepIn K (.ref f_Stamp_eq) = true)
    (fn_Stamp_eq : PySem.W.isFn K (.ref f_Stamp_eq) = true)
    (a_Stamp_ne : PySem.W.findIn K (.ref c_Stamp) "__ne__" = some (some (.ref f_Stamp_ne)))
    (l_Stamp_ne : K.lookup f_Stamp_ne = some ⟨oc_Stamp_ne, od_Stamp_ne, .func (PySem.W.fnOf "__ne__" "Stamp.__ne__" (defArgs s_Stamp_ne) (defBody s_Stamp_ne) (defScope s_Stamp_ne) .none kV_Stamp_ne dc_Stamp_ne pm_Stamp_ne an_Stamp_ne cd_Stamp_ne ct_Stamp_ne), sl_Stamp_ne⟩)
    (c_Stamp_ne : PySem.W.codeIn K cd_Stamp_ne "Stamp.__ne__" = true)
    (k_Stamp_ne : PySem.W.keepIn K (.ref f_Stamp_ne) = true)
    (fn_Stamp_ne : PySem.W.isFn K (.ref f_Stamp_ne) = true)
    (a_Stamp_lt : PySem.W.findIn K (.ref c_Stamp) "__lt__" = some (some (.ref f_Stamp_lt)))
    (l_Stamp_lt : K.lookup f_Stamp_lt = some ⟨oc_Stamp_lt, od_Stamp_lt, .func (PySem.W.fnOf "__lt__" "Stamp.__lt__" (defArgs s_Stamp_lt) (defBody s_Stamp_lt) (defScope s_Stamp_lt) .none kV_Stamp_lt dc_Stamp_lt pm_Stamp_lt an_Stamp_lt cd_Stamp_lt ct_Stamp_lt), sl_Stamp_lt⟩)
    (c_Stamp_lt : PySem.W.codeIn K cd_Stamp_lt "Stamp.__lt__" = true)
    (k_Stamp_lt : PySem.W.keepIn K (.ref f_Stamp_lt) = true)
    (fn_Stamp_lt : PySem.W.isFn K (.ref f_Stamp_lt) = true)
    (a_Stamp_le : PySem.W.findIn K (.ref c_Stamp) "__le__" = some (some (.ref f_Stamp_le)))
    (l_Stamp_le : K.lookup f_Stamp_le = some ⟨oc_Stamp_le, od_Stamp_le, .func (PySem.W.fnOf "__le__" "Stamp.__le__" (defArgs s_Stamp_le) (defBody s_Stamp_le) (defScope s_Stamp_le) .none kV_Stamp_le dc_Stamp_le pm_Stamp_le an_Stamp_le cd_Stamp_le ct_Stamp_le), sl_Stamp_le⟩)
    (c_Stamp_le : PySem.W.codeIn K cd_Stamp_le "Stamp.__le__" = true)
    (k_Stamp_le : PySem.W.keepIn K (.ref f_Stamp_le) = true)
    (fn_Stamp_le : PySem.W.isFn K (.ref f_Stamp_le) = true)
    (a_Stamp_gt : PySem.W.findIn K (.ref c_Stamp) "__gt__" = some (some (.ref f_Stamp_gt)))
    (l_Stamp_gt : K.lookup f_Stamp_gt = some ⟨oc_Stamp_gt, od_Stamp_gt, .func (PySem.W.fnOf "__gt__" "Stamp.__gt__" (defArgs s_Stamp_gt) (defBody s_Stamp_gt) (defScope s_Stamp_gt) .none kV_Stamp_gt dc_Stamp_gt pm_Stamp_gt an_Stamp_gt cd_Stamp_gt ct_Stamp_gt), sl_Stamp_gt⟩)
    (c_Stamp_gt : PySem.W.codeIn K cd_Stamp_gt "Stamp.__gt__" = true)
    (k_Stamp_gt : PySem.W.keepIn K (.ref f_Stamp_gt) = true)
    (fn_Stamp_gt : PySem.W.isFn K (.ref f_Stamp_gt) = true)
    (a_Stamp_ge : PySem.W.findIn K (.ref c_Stamp) "__ge__" = some (some (.ref f_Stamp_ge)))
    (l_Stamp_ge : K.lookup f_Stamp_ge = some ⟨oc_Stamp_ge, od_Stamp_ge, .func (PySem.W.fnOf "__ge__" "Stamp.__ge__" (defArgs s_Stamp_ge) (defBody s_Stamp_ge) (defScope s_Stamp_ge) .none kV_Stamp_ge dc_Stamp_ge pm_Stamp_ge an_Stamp_ge cd_Stamp_ge ct_Stamp_ge), sl_Stamp_ge⟩)
    (c_Stamp_ge : PySem.W.codeIn K cd_Stamp_ge "Stamp.__ge__" = true)
    (k_Stamp_ge : PySem.W.keepIn K (.ref f_Stamp_ge) = true)
    (fn_Stamp_ge : PySem.W.isFn K (.ref f_Stamp_ge) = true)
    (a_is_stamp : PySem.W.nsIn K mainGlobals "is_stamp" = some (some (.ref f_is_stamp)))
    (l_is_stamp : K.lookup f_is_stamp = some ⟨oc_is_stamp, od_is_stamp, .func (PySem.W.fnOf "is_stamp" "is_stamp" (defArgs s_is_stamp) (defBody s_is_stamp) (defScope s_is_stamp) (.ref T_is_stamp) kV_is_stamp dc_is_stamp pm_is_stamp an_is_stamp cd_is_stamp ct_is_stamp), sl_is_stamp⟩)
    (c_is_stamp : PySem.W.codeIn K cd_is_stamp "is_stamp" = true)
    (k_is_stamp : PySem.W.keepIn K (.ref f_is_stamp) = true)
    (T1_is_stamp : K.lookup T_is_stamp = some ⟨Tc_is_stamp, Td_is_stamp, .seq #[.int 0 tk0_is_stamp] Tn_is_stamp, Ts_is_stamp⟩)
    (a_place : PySem.W.nsIn K mainGlobals "place" = some (some (.ref f_place)))
    (l_place : K.lookup f_place = some ⟨oc_place, od_place, .func (PySem.W.fnOf "place" "place" (defArgs s_place) (defBody s_place) (defScope s_place) .none kV_place dc_place pm_place an_place cd_place ct_place), sl_place⟩)
    (c_place : PySem.W.codeIn K cd_place "place" = true)
    (k_place : PySem.W.keepIn K (.ref f_place) = true)
    (a_law_cell : PySem.W.nsIn K mainGlobals "_law_cell" = some (some (.ref f_law_cell)))
    (l_law_cell : K.lookup f_law_cell = some ⟨oc_law_cell, od_law_cell, .func (PySem.W.fnOf "_law_cell" "_law_cell" (defArgs s_law_cell) (defBody s_law_cell) (defScope s_law_cell) .none kV_law_cell dc_law_cell pm_law_cell an_law_cell cd_law_cell ct_law_cell), sl_law_cell⟩)
    (c_law_cell : PySem.W.codeIn K cd_law_cell "_law_cell" = true)
    (k_law_cell : PySem.W.keepIn K (.ref f_law_cell) = true)
    (a_law_told : PySem.W.nsIn K mainGlobals "_law_told" = some (some (.ref f_law_told)))
    (l_law_told : K.lookup f_law_told = some ⟨oc_law_told, od_law_told, .func (PySem.W.fnOf "_law_told" "_law_told" (defArgs s_law_told) (defBody s_law_told) (defScope s_law_told) .none kV_law_told dc_law_told pm_law_told an_law_told cd_law_told ct_law_told), sl_law_told⟩)
    (c_law_told : PySem.W.codeIn K cd_law_told "_law_told" = true)
    (k_law_told : PySem.W.keepIn K (.ref f_law_told) = true)
    (a_law : PySem.W.nsIn K mainGlobals "law" = some (some (.ref f_law)))
    (l_law : K.lookup f_law = some ⟨oc_law, od_law, .func (PySem.W.fnOf "law" "law" (defArgs s_law) (defBody s_law) (defScope s_law) .none kV_law dc_law pm_law an_law cd_law ct_law), sl_law⟩)
    (c_law : PySem.W.codeIn K cd_law "law" = true)
    (k_law : PySem.W.keepIn K (.ref f_law) = true)
    (gv_GREATEST : PySem.W.nsIn K mainGlobals "GREATEST" = some (some (.int 1000000000000000000000000000000 tk_GREATEST)))
    (n_NotImplemented : PySem.W.nsIn K mainGlobals "NotImplemented" = some none)
    (n_ValueError : PySem.W.nsIn K mainGlobals "ValueError" = some none)
    (n_bool : PySem.W.nsIn K mainGlobals "bool" = some none)
    (n_int : PySem.W.nsIn K mainGlobals "int" = some none)
    (n_isinstance : PySem.W.nsIn K mainGlobals "isinstance" = some none)
    (n_len : PySem.W.nsIn K mainGlobals "len" = some none)
    (n_range : PySem.W.nsIn K mainGlobals "range" = some none)
    (n_str : PySem.W.nsIn K mainGlobals "str" = some none)
    (n_super : PySem.W.nsIn K mainGlobals "super" = some none)
    : ∃ T : Txt K mg, T.f_law = fa := by
  refine ⟨{
    isg := ⟨z_hn, z_ht⟩,
    c_StampError := c_StampError,
    g_StampError := PySem.W.mg_of X G gc_StampError,
    k_StampError := kc_StampError,
    c_BadStamp := c_BadStamp,
    g_BadStamp := PySem.W.mg_of X G gc_BadStamp,
    k_BadStamp := kc_BadStamp,
    c_Stamp := c_Stamp,
    g_Stamp := PySem.W.mg_of X G gc_Stamp,
    k_Stamp := kc_Stamp,
    oex_StampError := ⟨⟨_, _, _, _, _, _, _, _, _, _, _, _, _, _, _, xl_StampError, rfl⟩, sa_StampError, xb_StampError, xt_StampError, kc_StampError⟩,
    excc_StampError := ⟨ga_StampError, gg_StampError, xb_StampError, hd_StampError, ha_StampError, z_hn, z_ht, hm_StampError⟩,
    xfc_StampError := ⟨ga_StampError, gg_StampError, xb_StampError, hd_StampError⟩,
    exm_StampError_StampError := PySem.W.exm_ref xb_StampError hd_StampError xt_StampError sb_StampError_StampError,
    kit_StampError_StampError := ko_StampError_StampError,
    exm_StampError_BadStamp := PySem.W.exm_ref xb_BadStamp hd_BadStamp xt_BadStamp sb_StampError_BadStamp,
    kit_StampError_BadStamp := ko_StampError_BadStamp,
    kit_StampError_VE := kv_StampError,
    oex_BadStamp := ⟨⟨_, _, _, _, _, _, _, _, _, _, _, _, _, _, _, xl_BadStamp, rfl⟩, sa_BadStamp, xb_BadStamp, xt_BadStamp, kc_BadStamp⟩,
    excc_BadStamp := ⟨ga_BadStamp, gg_BadStamp, xb_BadStamp, hd_BadStamp, ha_BadStamp, z_hn, z_ht, hm_BadStamp⟩,
    xfc_BadStamp := ⟨ga_BadStamp, gg_BadStamp, xb_BadStamp, hd_BadStamp⟩,
    exm_BadStamp_StampError := PySem.W.exm_ref xb_StampError hd_StampError xt_StampError sb_BadStamp_StampError,
    kit_BadStamp_StampError := ko_BadStamp_StampError,
    exm_BadStamp_BadStamp := PySem.W.exm_ref xb_BadStamp hd_BadStamp xt_BadStamp sb_BadStamp_BadStamp,
    kit_BadStamp_BadStamp := ko_BadStamp_BadStamp,
    kit_BadStamp_VE := kv_BadStamp,
    na_BadStamp_given := na_BadStamp_given,
    cl_Stamp := ⟨pg_Stamp, hd_Stamp, po_Stamp, sa_Stamp⟩,
    isi_Stamp := ⟨ha_Stamp, hm_Stamp⟩,
    kit_Stamp := ko_Stamp,
    na_Stamp_number := na_Stamp_number,
    f_BadStamp_init := f_BadStamp_init,
    d_BadStamp_init := PySem.W.fnX "__init__" "BadStamp.__init__" (defArgs s_BadStamp_init) (defBody s_BadStamp_init) (defScope s_BadStamp_init) [(("__class__" : Str), cc_BadStamp_init)] .none kV_BadStamp_init dc_BadStamp_init pm_BadStamp_init an_BadStamp_init (.ref cdr_BadStamp_init) ct_BadStamp_init,
    cc_BadStamp_init := cc_BadStamp_init,
    cdr_BadStamp_init := cdr_BadStamp_init,
    S_BadStamp_init := ⟨⟨⟨_, _, _, _, _, _, _, _, _, _, _, _, _, _, _, xl_BadStamp, rfl⟩, sa_BadStamp, xb_BadStamp, xt_BadStamp, kc_BadStamp⟩, su_BadStamp_init, ve_BadStamp_init, md_BadStamp_init, z_th, PySem.W.mg_none_of X G z_su, rfl, rfl, ⟨_, _, _, _, _, _, _, _, rfl, l_BadStamp_init⟩, ⟨_, _, _, _, _, _, cv_BadStamp_init, cw_BadStamp_init, cx_BadStamp_init⟩, c_BadStamp_init, ⟨_, _, _, cl_BadStamp_init⟩, tp_BadStamp_init⟩,
    i_BadStamp_init := a_BadStamp_init,
    t_BadStamp_init := ti_BadStamp_init,
    f_Stamp_init := f_Stamp_init,
    d_Stamp_init := PySem.W.fnOf "__init__" "Stamp.__init__" (defArgs s_Stamp_init) (defBody s_Stamp_init) (defScope s_Stamp_init) .none kV_Stamp_init dc_Stamp_init pm_Stamp_init an_Stamp_init cd_Stamp_init ct_Stamp_init,
    F_Stamp_init := fun_mk l_Stamp_init c_Stamp_init k_Stamp_init,
    m_Stamp_init := ⟨a_Stamp_init, fn_Stamp_init, k_Stamp_init⟩,
    mk_Stamp := ⟨mk_Stamp, a_Stamp_init, fn_Stamp_init, kc_Stamp⟩,
    f_Stamp_eq := f_Stamp_eq,
    d_Stamp_eq := PySem.W.fnOf "__eq__" "Stamp.__eq__" (defArgs s_Stamp_eq) (defBody s_Stamp_eq) (defScope s_Stamp_eq) .none kV_Stamp_eq dc_Stamp_eq pm_Stamp_eq an_Stamp_eq cd_Stamp_eq ct_Stamp_eq,
    F_Stamp_eq := fun_mk l_Stamp_eq c_Stamp_eq k_Stamp_eq,
    m_Stamp_eq := ⟨a_Stamp_eq, fn_Stamp_eq, k_Stamp_eq⟩,
    f_Stamp_ne := f_Stamp_ne,
    d_Stamp_ne := PySem.W.fnOf "__ne__" "Stamp.__ne__" (defArgs s_Stamp_ne) (defBody s_Stamp_ne) (defScope s_Stamp_ne) .none kV_Stamp_ne dc_Stamp_ne pm_Stamp_ne an_Stamp_ne cd_Stamp_ne ct_Stamp_ne,
    F_Stamp_ne := fun_mk l_Stamp_ne c_Stamp_ne k_Stamp_ne,
    m_Stamp_ne := ⟨a_Stamp_ne, fn_Stamp_ne, k_Stamp_ne⟩,
    f_Stamp_lt := f_Stamp_lt,
    d_Stamp_lt := PySem.W.fnOf "__lt__" "Stamp.__lt__" (defArgs s_Stamp_lt) (defBody s_Stamp_lt) (defScope s_Stamp_lt) .none kV_Stamp_lt dc_Stamp_lt pm_Stamp_lt an_Stamp_lt cd_Stamp_lt ct_Stamp_lt,
    F_Stamp_lt := fun_mk l_Stamp_lt c_Stamp_lt k_Stamp_lt,
    m_Stamp_lt := ⟨a_Stamp_lt, fn_Stamp_lt, k_Stamp_lt⟩,
    f_Stamp_le := f_Stamp_le,
    d_Stamp_le := PySem.W.fnOf "__le__" "Stamp.__le__" (defArgs s_Stamp_le) (defBody s_Stamp_le) (defScope s_Stamp_le) .none kV_Stamp_le dc_Stamp_le pm_Stamp_le an_Stamp_le cd_Stamp_le ct_Stamp_le,
    F_Stamp_le := fun_mk l_Stamp_le c_Stamp_le k_Stamp_le,
    m_Stamp_le := ⟨a_Stamp_le, fn_Stamp_le, k_Stamp_le⟩,
    f_Stamp_gt := f_Stamp_gt,
    d_Stamp_gt := PySem.W.fnOf "__gt__" "Stamp.__gt__" (defArgs s_Stamp_gt) (defBody s_Stamp_gt) (defScope s_Stamp_gt) .none kV_Stamp_gt dc_Stamp_gt pm_Stamp_gt an_Stamp_gt cd_Stamp_gt ct_Stamp_gt,
    F_Stamp_gt := fun_mk l_Stamp_gt c_Stamp_gt k_Stamp_gt,
    m_Stamp_gt := ⟨a_Stamp_gt, fn_Stamp_gt, k_Stamp_gt⟩,
    f_Stamp_ge := f_Stamp_ge,
    d_Stamp_ge := PySem.W.fnOf "__ge__" "Stamp.__ge__" (defArgs s_Stamp_ge) (defBody s_Stamp_ge) (defScope s_Stamp_ge) .none kV_Stamp_ge dc_Stamp_ge pm_Stamp_ge an_Stamp_ge cd_Stamp_ge ct_Stamp_ge,
    F_Stamp_ge := fun_mk l_Stamp_ge c_Stamp_ge k_Stamp_ge,
    m_Stamp_ge := ⟨a_Stamp_ge, fn_Stamp_ge, k_Stamp_ge⟩,
    f_is_stamp := f_is_stamp,
    d_is_stamp := PySem.W.fnOf "is_stamp" "is_stamp" (defArgs s_is_stamp) (defBody s_is_stamp) (defScope s_is_stamp) (.ref T_is_stamp) kV_is_stamp dc_is_stamp pm_is_stamp an_is_stamp cd_is_stamp ct_is_stamp,
    F_is_stamp := ⟨⟨_, _, _, _, _, _, _, _, _, _, rfl, l_is_stamp, c_is_stamp, .inr ⟨by simp, _, _, [.int 0 tk0_is_stamp], _, rfl, T1_is_stamp, rfl, .cons ⟨_, rfl⟩ (.nil)⟩, .inl rfl⟩, k_is_stamp⟩,
    g_is_stamp := PySem.W.mg_of X G a_is_stamp,
    f_place := f_place,
    d_place := PySem.W.fnOf "place" "place" (defArgs s_place) (defBody s_place) (defScope s_place) .none kV_place dc_place pm_place an_place cd_place ct_place,
    F_place := fun_mk l_place c_place k_place,
    g_place := PySem.W.mg_of X G a_place,
    f_law_cell := f_law_cell,
    d_law_cell := PySem.W.fnOf "_law_cell" "_law_cell" (defArgs s_law_cell) (defBody s_law_cell) (defScope s_law_cell) .none kV_law_cell dc_law_cell pm_law_cell an_law_cell cd_law_cell ct_law_cell,
    F_law_cell := fun_mk l_law_cell c_law_cell k_law_cell,
    g_law_cell := PySem.W.mg_of X G a_law_cell,
    f_law_told := f_law_told,
    d_law_told := PySem.W.fnOf "_law_told" "_law_told" (defArgs s_law_told) (defBody s_law_told) (defScope s_law_told) .none kV_law_told dc_law_told pm_law_told an_law_told cd_law_told ct_law_told,
    F_law_told := fun_mk l_law_told c_law_told k_law_told,
    g_law_told := PySem.W.mg_of X G a_law_told,
    f_law := f_law,
    d_law := PySem.W.fnOf "law" "law" (defArgs s_law) (defBody s_law) (defScope s_law) .none kV_law dc_law pm_law an_law cd_law ct_law,
    F_law := fun_mk l_law c_law k_law,
    g_law := PySem.W.mg_of X G a_law,
    g_GREATEST := ⟨_, PySem.W.mg_of X G gv_GREATEST⟩,
    n_NotImplemented := PySem.W.mg_none_of X G n_NotImplemented,
    n_ValueError := PySem.W.mg_none_of X G n_ValueError,
    n_bool := PySem.W.mg_none_of X G n_bool,
    n_int := PySem.W.mg_none_of X G n_int,
    n_isinstance := PySem.W.mg_none_of X G n_isinstance,
    n_len := PySem.W.mg_none_of X G n_len,
    n_range := PySem.W.mg_none_of X G n_range,
    n_str := PySem.W.mg_none_of X G n_str,
    n_super := PySem.W.mg_none_of X G n_super
  }, ?_⟩
  exact (Value.ref.inj (Option.some.inj (hfa.symm.trans (PySem.W.mg_of X G a_law)))).symm
end K02

namespace K02
open PySem L2 SI CM
section
variable {w : World} {K : PySem.W.Frag} {mg : Str → Option Value} {base : Heap} (T : Txt K mg)
abbrev PP : Program := PySem.Challenge.rw_stamprules_k02_place_of_an_asker.prog
/-- a plain value -/
def flat : V → Bool
  | .int _ => true | .bl _ => true | .str _ => true | .non => true | _ => false
def top30 : Int := 1000000000000000000000000000000
/-- is it a stamp from l on -/
def stampV : V → Int → Bool
  | .int n, l => decide (l ≤ n) && decide (n ≤ top30)
  | _, _ => false
def spIs : Sp := fun vs H Q _ => ∃ v l, vs = [v, .int l] ∧ flat v = true ∧ Q (.bl (stampV v l)) H
theorem ok_is : FnOk PP w K mg base CX0 1 T.f_is_stamp T.d_is_stamp ["number", "least"] spIs := by
  refine T.F_is_stamp.ok sc_is_stamp (fun vs H Q E h => ?_) (fun cdv A outer s H vs Q E hr h => ?_)
  · obtain ⟨v, l, rfl, _⟩ := h
    rfl
  · obtain ⟨v, l, rfl, fv, k⟩ := h
    obtain ⟨tg, hG⟩ := T.g_GREATEST
    refine ⟨_, pss_cons (ps_if (PW.pt (pw_or (pt_val (pe_callB call_isi (by rfl) T.n_isinstance (by decide +kernel) (pa_cons (pv 0) (pa_cons (pe_bltn (v := .ty "bool") (by rfl) T.n_bool (by decide +kernel) rfl) pa_nil))))
        (pw_or1 (pt_not (pt_val (pe_callB call_isi (by rfl) T.n_isinstance (by decide +kernel) (pa_cons (pv 0) (pa_cons (pe_bltn (v := .ty "int") (by rfl) T.n_int (by decide +kernel) rfl) pa_nil)))))))) (pss_one (ps_ret pe_bl)) pss_nil)
      (pss_one (ps_ret (pe_chain op_le op_le (pv 1) (pv 0) (pe_glob (v := .int top30) (by rfl) hG ⟨_, rfl⟩)))), ?_⟩
    cases v with
    | int n =>
      refine ⟨_, rfl, _, _, _, _, false, rfl, ClsV.ty _, .base (.int _), kit_ty (by decide +kernel), _, rfl, ?_⟩
      refine iteF ?_
      refine ⟨_, rfl, _, _, _, _, true, rfl, ClsV.ty _, .base (.int _), kit_ty (by decide +kernel), _, rfl, ?_⟩
      refine iteF ?_
      refine ⟨_, rfl, _, rfl, _, _, rfl, rfl, _, rfl, ?_⟩
      by_cases hl : l ≤ n
      · rw [decide_eq_true hl]
        refine iteT ⟨_, _, rfl, rfl, ?_⟩
        have e : stampV (.int n) l = decide (n ≤ top30) := by simp [stampV, hl]
        rw [e] at k
        exact k
      · rw [decide_eq_false hl]
        refine iteF ?_
        have e : stampV (.int n) l = false := by simp [stampV, hl]
        rw [e] at k
        exact k
    | bl b =>
      refine ⟨_, rfl, _, _, _, _, true, rfl, ClsV.ty _, .base (.bl _), kit_ty (by decide +kernel), _, rfl, ?_⟩
      exact iteT k
    | str x =>
      refine ⟨_, rfl, _, _, _, _, false, rfl, ClsV.ty _, .base (.str _), kit_ty (by decide +kernel), _, rfl, ?_⟩
      refine iteF ?_
      refine ⟨_, rfl, _, _, _, _, false, rfl, ClsV.ty _, .base (.str _), kit_ty (by decide +kernel), _, rfl, ?_⟩
      exact iteT k
    | non =>
      refine ⟨_, rfl, _, _, _, _, false, rfl, ClsV.ty _, .base .non, kit_ty (by decide +kernel), _, rfl, ?_⟩
      refine iteF ?_
      refine ⟨_, rfl, _, _, _, _, false, rfl, ClsV.ty _, .base .non, kit_ty (by decide +kernel), _, rfl, ?_⟩
      exact iteT k
    | _ => cases fv
/-- the __init__ of an error with one field, behind a text of its own -/
def spBad (C : Addr) (f : Str) : Sp := fun vs H Q _ => ∃ a v, vs = [.ref a, v] ∧ H a = some (exo a C none) ∧ ∀ dx, H dx = none → dx ≠ a → Q .non (upd (upd H dx (exd dx [(f, v)])) a (exo a C (some dx)))
theorem ok_bad : FnOk PP w K mg base CX0 1 T.f_BadStamp_init T.d_BadStamp_init ["self", "given"] (spBad T.c_BadStamp "given") := by
  refine ok_sup (N := ["self", "given", "__class__"]) T.S_BadStamp_init sc_BadStamp_init rfl (show (defScope s_BadStamp_init).names.lookup ("super" : Str) = some .globalImplicit by decide +kernel) rfl rfl (fun vs H Q E h => ?_) (fun A outer s H vs Q E hr h => ?_)
  · obtain ⟨a, v, rfl, _⟩ := h
    rfl
  · obtain ⟨a, v, rfl, ha, k⟩ := h
    refine ⟨a, _, _, _, pa_cons pe_str pa_nil, pss_one (ps_ost (pv 0) (pv 1)), rfl, fun M B u Q' E' s' z => PySem.Calls.evalArgs_plain z, rfl, rfl, rfl, ha, by show 1 ≤ 1000; decide, ha, ?_⟩
    exact ⟨_, rfl, _, rfl, _, _, rfl, T.oex_BadStamp, T.na_BadStamp_given, .inl ⟨ha, fun dx n ne => k dx n ne⟩⟩
end
end K02

namespace K02
open PySem L2 SI CM
section
variable {w : World} {K : PySem.W.Frag} {mg : Str → Option Value} {base : Heap} (T : Txt K mg)
/-- a Stamp with the number n stands at p -/
def StAt (C : Addr) (H : Hp) (p : Addr) (n : Int) : Prop := ∃ dx, H p = some (.ins C dx [(("number" : Str), .int n)])
def spInit (C B : Addr) : Sp := fun vs H Q E => ∃ p dx v, vs = [.ref p, v] ∧ H p = some (.ins C dx []) ∧ flat v = true ∧
  (stampV v 0 = true → Q .non (upd H p (.ins C dx [(("number" : Str), v)]))) ∧ (stampV v 0 = false → ∀ d, H d = none → E (.ref B) (some d) (upd H d (.xd [(("given" : Str), v)])))
theorem ok_init : FnOk PP w K mg base (L2.CX PP w) 4 T.f_Stamp_init T.d_Stamp_init ["self", "number"] (spInit T.c_Stamp T.c_BadStamp) := by
  refine T.F_Stamp_init.okX sc_Stamp_init (fun vs H Q E h => ?_) (fun cdv A outer s H vs Q E hr h => ?_)
  · obtain ⟨p, dx, v, rfl, _⟩ := h
    rfl
  · obtain ⟨p, dx, v, rfl, hp, fv, kT, kF⟩ := h
    obtain ⟨ds, rd, hb⟩ := b1_is_stamp T
    have hr1 : Room 1 _ := hr.mono (by decide)
    have hr2 : Room 2 _ := hr.mono (by decide)
    refine ⟨_, pss_cons (ps_if (pt_not (pt_val (pe_call (ok_is T) hr1 (by rfl) T.g_is_stamp T.F_is_stamp.kp hb rd pass0 (pa_cons (pv 1) pa_nil))))
      (pss_one (ps_raise rfl (takes_of rfl rfl rfl rfl) (pmk_oex T.oex_BadStamp T.i_BadStamp_init T.t_BadStamp_init (ok_bad T) hr2 (b_BadStamp_init T) .nil pass0 (by rfl) T.g_BadStamp (pa_cons (pv 1) pa_nil)))) pss_nil)
      (pss_one (ps_fld (pv 0) (pv 1) rfl)), ?_⟩
    refine ⟨_, rfl, v, 0, rfl, fv, _, rfl, ?_⟩
    cases e : stampV v 0 with
    | true =>
      refine iteF ?_
      exact ⟨_, rfl, _, rfl, p, T.c_Stamp, dx, _, rfl, hp, T.cl_Stamp, T.na_Stamp_number, by show 0 < 1000; decide, kT e⟩
    | false =>
      refine iteT ?_
      refine ⟨_, rfl, by show 1 ≤ 1000; decide, fun a ha => ?_⟩
      refine ⟨a, v, rfl, upd_same, fun d hd hne => ⟨rfl, d, [(("given" : Str), v)], upd_same, ?_, ?_, ?_⟩⟩
      · rw [upd_ne hne, upd_same]
      · rw [upd_ne hne] at hd
        exact hd
      · rw [upd_ne hne] at hd
        have z := kF e d hd
        have eh : upd (del (upd (upd (upd H a (exo a T.c_BadStamp none)) d (exd d [(("given" : Str), v)])) a (exo a T.c_BadStamp (some d))) a) d (.xd [(("given" : Str), v)]) = upd H d (.xd [(("given" : Str), v)]) := by
          funext b
          by_cases hbd : b = d
          · rw [hbd, upd_same, upd_same]
          · rw [upd_ne hbd, upd_ne hbd]
            by_cases hba : b = a
            · rw [hba, del_same, ha]
            · rw [del_ne hba, upd_ne hba, upd_ne hbd, upd_ne hba]
        rw [eh]
        exact z
def spCmp (C : Addr) (f : Int → Int → Bool) : Sp := fun vs H Q _ => ∃ p q x y, vs = [.ref p, .ref q] ∧ StAt C H p x ∧ StAt C H q y ∧ Q (.bl (f x y)) H
theorem st_ty {H : Hp} {q dy : Addr} {fs : List (Str × V)} (h : H q = some (.ins T.c_Stamp dy fs)) : TyX K H (.ref q) (.ref T.c_Stamp) := .base (.ins h T.cl_Stamp T.isi_Stamp.ha T.isg.hn T.isg.ht T.isi_Stamp.hm)
theorem ok_lt : FnOk PP w K mg base CX0 1 T.f_Stamp_lt T.d_Stamp_lt ["self", "other"] (spCmp T.c_Stamp fun x y => decide (x < y)) := by
  refine T.F_Stamp_lt.ok sc_Stamp_lt (fun vs H Q E h => ?_) (fun cdv A outer s H vs Q E hr h => ?_)
  · obtain ⟨p, q, x, y, rfl, _⟩ := h
    rfl
  · obtain ⟨p, q, x, y, rfl, ⟨dx, hp⟩, ⟨dy, hq⟩, k⟩ := h
    refine ⟨_, pss_cons (ps_if (pt_not (pt_val (pe_callB call_isi (by rfl) T.n_isinstance (by decide +kernel) (pa_cons (pv 1) (pa_cons (pe_glob (v := .ref T.c_Stamp) (by rfl) T.g_Stamp rfl) pa_nil))))) pss_never pss_nil)
      (pss_one (ps_ret (pe_cmpR op_lt (pe_fld (pv 0) rfl) (pe_fld (pv 1) rfl) (nomark _)))), ?_⟩
    refine ⟨_, rfl, _, _, _, _, true, rfl, ClsV.own _, st_ty T hq, T.kit_Stamp, _, rfl, ?_⟩
    refine iteF ?_
    exact ⟨_, rfl, p, _, dx, _, _, rfl, hp, T.cl_Stamp, T.na_Stamp_number, rfl, _, rfl, q, _, dy, _, _, rfl, hq, T.cl_Stamp, T.na_Stamp_number, rfl, _, _, rfl, rfl, k⟩
end
end K02

namespace K02
open PySem L2 SI CM
section
variable {w : World} {K : PySem.W.Frag} {mg : Str → Option Value} {base : Heap} (T : Txt K mg)
theorem ok_le : FnOk PP w K mg base CX0 1 T.f_Stamp_le T.d_Stamp_le ["self", "other"] (spCmp T.c_Stamp fun x y => decide (x ≤ y)) := by
  refine T.F_Stamp_le.ok sc_Stamp_le (fun vs H Q E h => ?_) (fun cdv A outer s H vs Q E hr h => ?_)
  · obtain ⟨p, q, x, y, rfl, _⟩ := h
    rfl
  · obtain ⟨p, q, x, y, rfl, ⟨dx, hp⟩, ⟨dy, hq⟩, k⟩ := h
    refine ⟨_, pss_cons (ps_if (pt_not (pt_val (pe_callB call_isi (by rfl) T.n_isinstance (by decide +kernel) (pa_cons (pv 1) (pa_cons (pe_glob (v := .ref T.c_Stamp) (by rfl) T.g_Stamp rfl) pa_nil))))) pss_never pss_nil)
      (pss_one (ps_ret (pe_cmpR op_le (pe_fld (pv 0) rfl) (pe_fld (pv 1) rfl) (nomark _)))), ?_⟩
    refine ⟨_, rfl, _, _, _, _, true, rfl, ClsV.own _, st_ty T hq, T.kit_Stamp, _, rfl, ?_⟩
    refine iteF ?_
    exact ⟨_, rfl, p, _, dx, _, _, rfl, hp, T.cl_Stamp, T.na_Stamp_number, rfl, _, rfl, q, _, dy, _, _, rfl, hq, T.cl_Stamp, T.na_Stamp_number, rfl, _, _, rfl, rfl, k⟩
theorem ok_gt : FnOk PP w K mg base CX0 1 T.f_Stamp_gt T.d_Stamp_gt ["self", "other"] (spCmp T.c_Stamp fun x y => decide (y < x)) := by
  refine T.F_Stamp_gt.ok sc_Stamp_gt (fun vs H Q E h => ?_) (fun cdv A outer s H vs Q E hr h => ?_)
  · obtain ⟨p, q, x, y, rfl, _⟩ := h
    rfl
  · obtain ⟨p, q, x, y, rfl, ⟨dx, hp⟩, ⟨dy, hq⟩, k⟩ := h
    refine ⟨_, pss_cons (ps_if (pt_not (pt_val (pe_callB call_isi (by rfl) T.n_isinstance (by decide +kernel) (pa_cons (pv 1) (pa_cons (pe_glob (v := .ref T.c_Stamp) (by rfl) T.g_Stamp rfl) pa_nil))))) pss_never pss_nil)
      (pss_one (ps_ret (pe_cmpR op_gt (pe_fld (pv 0) rfl) (pe_fld (pv 1) rfl) (nomark _)))), ?_⟩
    refine ⟨_, rfl, _, _, _, _, true, rfl, ClsV.own _, st_ty T hq, T.kit_Stamp, _, rfl, ?_⟩
    refine iteF ?_
    exact ⟨_, rfl, p, _, dx, _, _, rfl, hp, T.cl_Stamp, T.na_Stamp_number, rfl, _, rfl, q, _, dy, _, _, rfl, hq, T.cl_Stamp, T.na_Stamp_number, rfl, _, _, rfl, rfl, k⟩
theorem ok_ge : FnOk PP w K mg base CX0 1 T.f_Stamp_ge T.d_Stamp_ge ["self", "other"] (spCmp T.c_Stamp fun x y => decide (y ≤ x)) := by
  refine T.F_Stamp_ge.ok sc_Stamp_ge (fun vs H Q E h => ?_) (fun cdv A outer s H vs Q E hr h => ?_)
  · obtain ⟨p, q, x, y, rfl, _⟩ := h
    rfl
  · obtain ⟨p, q, x, y, rfl, ⟨dx, hp⟩, ⟨dy, hq⟩, k⟩ := h
    refine ⟨_, pss_cons (ps_if (pt_not (pt_val (pe_callB call_isi (by rfl) T.n_isinstance (by decide +kernel) (pa_cons (pv 1) (pa_cons (pe_glob (v := .ref T.c_Stamp) (by rfl) T.g_Stamp rfl) pa_nil))))) pss_never pss_nil)
      (pss_one (ps_ret (pe_cmpR op_ge (pe_fld (pv 0) rfl) (pe_fld (pv 1) rfl) (nomark _)))), ?_⟩
    refine ⟨_, rfl, _, _, _, _, true, rfl, ClsV.own _, st_ty T hq, T.kit_Stamp, _, rfl, ?_⟩
    refine iteF ?_
    exact ⟨_, rfl, p, _, dx, _, _, rfl, hp, T.cl_Stamp, T.na_Stamp_number, rfl, _, rfl, q, _, dy, _, _, rfl, hq, T.cl_Stamp, T.na_Stamp_number, rfl, _, _, rfl, rfl, k⟩
theorem ok_ne : FnOk PP w K mg base CX0 1 T.f_Stamp_ne T.d_Stamp_ne ["self", "other"] (spCmp T.c_Stamp fun x y => !decide (x = y)) := by
  refine T.F_Stamp_ne.ok sc_Stamp_ne (fun vs H Q E h => ?_) (fun cdv A outer s H vs Q E hr h => ?_)
  · obtain ⟨p, q, x, y, rfl, _⟩ := h
    rfl
  · obtain ⟨p, q, x, y, rfl, ⟨dx, hp⟩, ⟨dy, hq⟩, k⟩ := h
    refine ⟨_, pss_cons (ps_if (pt_not (pt_val (pe_callB call_isi (by rfl) T.n_isinstance (by decide +kernel) (pa_cons (pv 1) (pa_cons (pe_glob (v := .ref T.c_Stamp) (by rfl) T.g_Stamp rfl) pa_nil))))) pss_never pss_nil)
      (pss_one (ps_ret (pe_cmpR op_ne (pe_fld (pv 0) rfl) (pe_fld (pv 1) rfl) (nomark _)))), ?_⟩
    refine ⟨_, rfl, _, _, _, _, true, rfl, ClsV.own _, st_ty T hq, T.kit_Stamp, _, rfl, ?_⟩
    refine iteF ?_
    refine ⟨_, rfl, p, _, dx, _, _, rfl, hp, T.cl_Stamp, T.na_Stamp_number, rfl, _, rfl, q, _, dy, _, _, rfl, hq, T.cl_Stamp, T.na_Stamp_number, rfl, rfl, ?_⟩
    have e : decide (V.int x = V.int y) = decide (x = y) := by simp
    rw [e]
    exact k
theorem ok_eq : FnOk PP w K mg base CX0 1 T.f_Stamp_eq T.d_Stamp_eq ["self", "other"] (spCmp T.c_Stamp fun x y => decide (x = y)) := by
  refine T.F_Stamp_eq.ok sc_Stamp_eq (fun vs H Q E h => ?_) (fun cdv A outer s H vs Q E hr h => ?_)
  · obtain ⟨p, q, x, y, rfl, _⟩ := h
    rfl
  · obtain ⟨p, q, x, y, rfl, ⟨dx, hp⟩, ⟨dy, hq⟩, k⟩ := h
    refine ⟨_, pss_one (ps_ret (pe_and (pe_callB call_isi (by rfl) T.n_isinstance (by decide +kernel) (pa_cons (pv 1) (pa_cons (pe_glob (v := .ref T.c_Stamp) (by rfl) T.g_Stamp rfl) pa_nil)))
      (pe_one (pe_cmpR op_eq (pe_fld (pv 0) rfl) (pe_fld (pv 1) rfl) (nomark _))))), ?_⟩
    refine ⟨_, rfl, _, _, _, _, true, rfl, ClsV.own _, st_ty T hq, T.kit_Stamp, _, rfl, ?_⟩
    refine iteT ?_
    refine ⟨_, rfl, p, _, dx, _, _, rfl, hp, T.cl_Stamp, T.na_Stamp_number, rfl, _, rfl, q, _, dy, _, _, rfl, hq, T.cl_Stamp, T.na_Stamp_number, rfl, rfl, ?_⟩
    have e : decide (V.int x = V.int y) = decide (x = y) := by simp
    rw [e]
    exact k
def spCell (K : PySem.W.Frag) : Sp := fun vs H Q _ => ∃ (a : Addr) (ns : List Int) (k : Nat), vs = [.ref a, .int (k : Int)] ∧ SqL K H a (ns.map V.int) ∧ ns.length ≤ 63 ∧ Q (.int (ns.getD k 0)) H
theorem ok_cell : FnOk PP w K mg base CX0 1 T.f_law_cell T.d_law_cell ["_law_script", "_law_k"] (spCell K) := by
  refine T.F_law_cell.ok sc_law_cell (fun vs H Q E h => ?_) (fun cdv A outer s H vs Q E hr h => ?_)
  · obtain ⟨a, ns, k, rfl, _⟩ := h
    rfl
  · obtain ⟨a, ns, i, rfl, hS, hlen, k⟩ := h
    refine ⟨_, pss_cons (ps_if (pt_cmpR op_lt (pv 1) (pe_callB call_len_seq (by rfl) T.n_len PySem.boot_len (pa_cons (pv 0) pa_nil)) (nomark _)) (pss_one (ps_ret (pe_ix ix_list (pv 0) (pv 1) (fun _ _ => rfl)))) pss_nil) (pss_one (ps_ret pe_int)), ?_⟩
    refine ⟨_, rfl, _, rfl, a, _, rfl, .inl hS, _, _, rfl, rfl, _, rfl, ?_⟩
    rw [List.length_map]
    by_cases h : (i : Int) < (ns.length : Int)
    · rw [decide_eq_true h]
      have hi : i < ns.length := by omega
      refine iteT ⟨_, rfl, _, rfl, a, _, _, .int (ns.getD i 0), rfl, rfl, hS, atI_nat (by rw [List.getElem?_map, List.getElem?_eq_getElem hi, List.getD_eq_getElem?_getD, List.getElem?_eq_getElem hi] <;> rfl), k⟩
    · rw [decide_eq_false h]
      have hi : ns.length ≤ i := by omega
      refine iteF ?_
      rw [List.getD_eq_getElem?_getD, List.getElem?_eq_none hi] at k
      exact k
end
end K02

namespace K02
open PySem L2 SI CM
section
variable {w : World} {K : PySem.W.Frag} {mg : Str → Option Value} {base : Heap} (T : Txt K mg)
theorem StAt.same {C : Addr} {H H' : Hp} {p : Addr} {n : Int} (s : Same H H') (h : StAt C H p n) : StAt C H' p n := by
  obtain ⟨dx, e⟩ := h
  exact ⟨dx, s _ _ e⟩
abbrev ownF {k : Nat} {f : Addr} {fd : FuncData} {ps : List Str} {sp : Sp} (F : FnOk PP w K mg base CX0 k f fd ps sp) (b : Binds K fd ps []) : FnR PP w K mg base CX0 k f (fun vs H Q E => sp (vs ++ []) H Q E) := F.raw b .nil
theorem cmp_of {C : Addr} {f : Int → Int → Bool} {p q : Addr} {x y : Int} {H : Hp} {R : VK} (hp : StAt C H p x) (hq : StAt C H q y) (r : R (.bl (f x y)) H) : rOwnI C (fun vs H Q E => spCmp C f (vs ++ []) H Q E) E0 (.ref p) (.ref q) H R := by
  obtain ⟨dx, hp'⟩ := id hp
  obtain ⟨dy, hq'⟩ := id hq
  exact ⟨p, dx, _, q, dy, _, rfl, rfl, hp', hq', p, q, x, y, rfl, hp, hq, r⟩
/-- the place, as the document tells it -/
def placeV (s w : Int) : Option Int → Str
  | none => if w < s then "free" else "late"
  | some h => if h = s then "own" else if s < w then "under" else if s < h then "below" else "above"
def HoldV (C : Addr) (H : Hp) (hv : V) (h : Option Int) : Prop := (hv = .non ∧ h = none) ∨ ∃ r n, hv = .ref r ∧ StAt C H r n ∧ h = some n
theorem HoldV.same {C : Addr} {H H' : Hp} {hv : V} {h : Option Int} (s : Same H H') (e : HoldV C H hv h) : HoldV C H' hv h := by
  rcases e with e | ⟨r, n, e, st, e2⟩
  · exact .inl e
  · exact .inr ⟨r, n, e, st.same s, e2⟩
def spPlace (C : Addr) : Sp := fun vs H Q _ => ∃ p q hv s x h, vs = [.ref p, .ref q, hv] ∧ StAt C H p s ∧ StAt C H q x ∧ HoldV C H hv h ∧ Q (.str (placeV s x h)) H
theorem ok_place : FnOk PP w K mg base CX0 2 T.f_place T.d_place ["asker", "last", "holder"] (spPlace T.c_Stamp) := by
  refine T.F_place.ok sc_place (fun vs H Q E h => ?_) (fun cdv A outer s H vs Q E hr h => ?_)
  · obtain ⟨p, q, hv, s, x, h, rfl, _⟩ := h
    rfl
  · obtain ⟨p, q, hv, u, x, h, rfl, hp, hq, hh, k⟩ := h
    have oL := op_ownI (X := (cxOf CX0 PP w K mg base ["asker", "last", "holder"] "place" (defScope s_place) T.f_place cdv A outer s H E).nox) (op := .Lt) (fun _ _ => rfl) T.m_Stamp_lt.at_ T.m_Stamp_lt.fn (ownF (ok_lt T) (b_Stamp_lt T)) hr pass0
    have oE := op_ownI (X := (cxOf CX0 PP w K mg base ["asker", "last", "holder"] "place" (defScope s_place) T.f_place cdv A outer s H E).nox) (op := .Eq) (fun _ _ => rfl) T.m_Stamp_eq.at_ T.m_Stamp_eq.fn (ownF (ok_eq T) (b_Stamp_eq T)) hr pass0
    refine ⟨_, pss_cons (ps_if (pt_cmpR op_isN (pv 2) pe_non (nomark _)) (pss_one (ps_ret (pe_ifExp (pt_cmpR oL (pv 1) (pv 0) (nomark _)) pe_str pe_str))) pss_nil)
      (pss_cons (ps_if (pt_cmpR oE (pv 2) (pv 0) (nomark _)) (pss_one (ps_ret pe_str)) pss_nil)
      (pss_cons (ps_if (pt_cmpR oL (pv 0) (pv 1) (nomark _)) (pss_one (ps_ret pe_str)) pss_nil)
      (pss_one (ps_ret (pe_ifExp (pt_cmpR oL (pv 0) (pv 2) (nomark _)) pe_str pe_str))))), ?_⟩
    rcases hh with ⟨rfl, rfl⟩ | ⟨r, n, rfl, hr', rfl⟩
    · refine ⟨_, rfl, rfl, _, rfl, ?_⟩
      refine iteT ?_
      refine ⟨_, rfl, _, rfl, cmp_of hq hp ⟨_, rfl, ?_⟩⟩
      by_cases c : x < u
      · rw [decide_eq_true c]
        refine iteT ?_
        have e : placeV u x none = "free" := if_pos c
        rw [e] at k
        exact k
      · rw [decide_eq_false c]
        refine iteF ?_
        have e : placeV u x none = "late" := if_neg c
        rw [e] at k
        exact k
    · refine ⟨_, rfl, rfl, _, rfl, ?_⟩
      refine iteF ?_
      refine ⟨_, rfl, _, rfl, cmp_of hr' hp ⟨_, rfl, ?_⟩⟩
      have e0 : placeV u x (some n) = (if n = u then ("own" : Str) else if u < x then ("under" : Str) else if u < n then ("below" : Str) else ("above" : Str)) := rfl
      rw [e0] at k
      by_cases c : n = u
      · rw [decide_eq_true c]
        rw [if_pos c] at k
        exact iteT k
      · rw [decide_eq_false c]
        rw [if_neg c] at k
        refine iteF ⟨_, rfl, _, rfl, cmp_of hp hq ⟨_, rfl, ?_⟩⟩
        by_cases c : u < x
        · rw [decide_eq_true c]
          rw [if_pos c] at k
          exact iteT k
        · rw [decide_eq_false c]
          rw [if_neg c] at k
          refine iteF ⟨_, rfl, _, rfl, cmp_of hp hr' ⟨_, rfl, ?_⟩⟩
          by_cases c : u < n
          · rw [decide_eq_true c]
            rw [if_pos c] at k
            exact iteT k
          · rw [decide_eq_false c]
            rw [if_neg c] at k
            exact iteF k
def spTold (C : Addr) : Sp := fun vs H Q _ => ∃ p q hv u x h, vs = [.ref p, .ref q, hv, .str (placeV u x h)] ∧ StAt C H p u ∧ StAt C H q x ∧ HoldV C H hv h ∧ Q (.bl true) H
theorem ok_told : FnOk PP w K mg base CX0 3 T.f_law_told T.d_law_told ["_law_asker", "_law_last", "_law_holder", "_law_due"] (spTold T.c_Stamp) := by
  refine T.F_law_told.ok sc_law_told (fun vs H Q E h => ?_) (fun cdv A outer s H vs Q E hr h => ?_)
  · obtain ⟨p, q, hv, s, x, h, rfl, _⟩ := h
    rfl
  · obtain ⟨p, q, hv, u, x, h, rfl, hp, hq, hh, k⟩ := h
    refine ⟨_, pss_cons (ps_set (i := 4) sc_law_told.nd rfl (.inl rfl) (pe_call (ok_place T) hr (by rfl) T.g_place T.F_place.kp (b_place T) .nil pass0 (pa_cons (pv 0) (pa_cons (pv 1) (pa_cons (pv 2) pa_nil)))))
      (pss_one (ps_ret (pe_and (pe_callB call_isi (by rfl) T.n_isinstance (by decide +kernel) (pa_cons (pv 4) (pa_cons (pe_bltn (v := .ty "str") (by rfl) T.n_str (by decide +kernel) rfl) pa_nil)))
        (pe_one (pe_cmpR op_eq (pv 4) (pv 3) (nomark _)))))), ?_⟩
    refine ⟨_, rfl, _, rfl, _, rfl, p, q, hv, u, x, h, rfl, hp, hq, hh, ?_⟩
    refine ⟨_, rfl, _, _, _, _, true, rfl, ClsV.ty _, .base (.str _), kit_ty (by decide +kernel), _, rfl, ?_⟩
    refine iteT ⟨_, rfl, _, rfl, rfl, ?_⟩
    rw [decide_eq_true (rfl : V.str (placeV u x h) = V.str (placeV u x h))]
    exact k
end
end K02

namespace K02
open PySem L2 SI CM
def spLaw (K : PySem.W.Frag) : Sp := fun vs H Q _ => ∃ (a : Addr) (ns : List Int), vs = [.ref a] ∧ SqL K H a (ns.map V.int) ∧ ns.length ≤ 63 ∧ ∀ H', Q (.bl true) H'
abbrev T29 : Int := (10 : Int) ^ (29 : Int).toNat
theorem t29 : T29 = 100000000000000000000000000000 := by decide
section
variable {w : World} {K : PySem.W.Frag} {mg : Str → Option Value} {base : Heap} (T : Txt K mg)
theorem stampV_in {n : Int} (h0 : 0 ≤ n) (h1 : n ≤ top30) : stampV (.int n) 0 = true := by
  have e : stampV (.int n) 0 = (decide (0 ≤ n) && decide (n ≤ top30)) := rfl
  rw [e, decide_eq_true h0, decide_eq_true h1]
  rfl
/-- one question with its due answer -/
def AskOk (C : Addr) (H : Hp) (z : V) : Prop := ∃ l p q hv u x h, z = .ref l ∧ H l = some (.lst [.ref p, .ref q, hv, .str (placeV u x h)]) ∧ StAt C H p u ∧ StAt C H q x ∧ HoldV C H hv h
theorem AskOk.same {C : Addr} {H H' : Hp} {z : V} (s : Same H H') (a : AskOk C H z) : AskOk C H' z := by
  obtain ⟨l, p, q, hv, u, x, h, e, hl, sp, sq, hh⟩ := a
  exact ⟨l, p, q, hv, u, x, h, e, s _ _ hl, sp.same s, sq.same s, hh.same s⟩
theorem ask_new {C : Addr} {H : Hp} {l p q : Addr} {hv : V} {u x : Int} {h : Option Int} {d : Str} (n : H l = none) (e : placeV u x h = d) (sp : StAt C H p u) (sq : StAt C H q x) (hh : HoldV C H hv h) : AskOk C (upd H l (.lst [.ref p, .ref q, hv, .str d])) (.ref l) := by
  subst e
  have s := same_new (o := .lst [.ref p, .ref q, hv, .str (placeV u x h)]) (Same.refl H) n
  exact ⟨l, p, q, hv, u, x, h, rfl, upd_same, sp.same s, sq.same s, hh.same s⟩
theorem place_free {u x : Int} (h : x < u) : placeV u x none = "free" := if_pos h
theorem place_late {u x : Int} (h : u < x) : placeV u x none = "late" := if_neg (by omega)
theorem place_own {u x : Int} : placeV u x (some u) = "own" := if_pos rfl
theorem place_under {u x n : Int} (h : u < x) (h2 : u ≠ n) : placeV u x (some n) = "under" := (if_neg (by omega)).trans (if_pos h)
theorem place_below {u x n : Int} (h : x < u) (h2 : u < n) : placeV u x (some n) = "below" := (if_neg (by omega)).trans ((if_neg (by omega)).trans (if_pos h2))
theorem place_above {u x n : Int} (h : x < u) (h2 : n < u) : placeV u x (some n) = "above" := (if_neg (by omega)).trans ((if_neg (by omega)).trans (if_neg (by omega)))
/-- what stands between the rows -/
structure Rows (C : Addr) (H0 H : Hp) (D : Addr) (zs : List V) (n : Nat) : Prop where
  sm : Same H0 H
  hD : H D = some (.lst zs)
  ln : zs.length = n
  ok : ∀ z ∈ zs, AskOk C H z
theorem ok_law : FnOk PP w K mg base CX0 9 T.f_law T.d_law ["_law_script"] (spLaw K) := by
  refine T.F_law.ok sc_law (fun vs H Q E h => ?_) (fun cdv A outer s H vs Q E hr h => ?_)
  · obtain ⟨a, ns, rfl, _⟩ := h
    rfl
  · obtain ⟨a, ns, rfl, hS, hlen, k⟩ := h
    have hr1 : Room 1 _ := hr.mono (by decide)
    have hr3 : Room 3 _ := hr.mono (by decide)
    have hr5 : Room 5 _ := hr.mono (by decide)
    refine ⟨_, pss_cons (ps_set (i := 1) sc_law.nd rfl (.inl rfl) (pe_op op_add pe_int (pe_op op_mod (pe_callTy call_int1 (by rfl) T.n_int (by decide +kernel) (pa_cons (pe_call (ok_cell T) hr1 (by rfl) T.g_law_cell T.F_law_cell.kp (b_law_cell T) .nil pass0 (pa_cons (pv 0) (pa_cons pe_int pa_nil))) pa_nil)) (pe_op op_pow pe_int pe_int))))
      (pss_cons (ps_set (i := 2) sc_law.nd rfl (.inl rfl) (pe_op op_add (pe_op op_add (pv 1) pe_int) (pe_op op_mod (pe_callTy call_int1 (by rfl) T.n_int (by decide +kernel) (pa_cons (pe_call (ok_cell T) hr1 (by rfl) T.g_law_cell T.F_law_cell.kp (b_law_cell T) .nil pass0 (pa_cons (pv 0) (pa_cons pe_int pa_nil))) pa_nil)) (pe_op op_pow pe_int pe_int))))
      (C8.pss_cut (ps_set (i := 3) sc_law.nd rfl (.inl rfl) (pe_op op_add (pe_op op_add (pv 2) pe_int) (pe_op op_mod (pe_callTy call_int1 (by rfl) T.n_int (by decide +kernel) (pa_cons (pe_call (ok_cell T) hr1 (by rfl) T.g_law_cell T.F_law_cell.kp (b_law_cell T) .nil pass0 (pa_cons (pv 0) (pa_cons pe_int pa_nil))) pa_nil)) (pe_op op_pow pe_int pe_int))))
      (pss_cons (ps_set (i := 4) sc_law.nd rfl (.inl rfl) (pe_make T.mk_Stamp (ok_init T) hr5 (by rfl) T.g_Stamp (b_Stamp_init T) .nil passL (pa_cons pe_int pa_nil)))
      (pss_cons (ps_set (i := 5) sc_law.nd rfl (.inl rfl) (pe_make T.mk_Stamp (ok_init T) hr5 (by rfl) T.g_Stamp (b_Stamp_init T) .nil passL (pa_cons (pv 1) pa_nil)))
      (pss_cons (ps_set (i := 6) sc_law.nd rfl (.inl rfl) (pe_make T.mk_Stamp (ok_init T) hr5 (by rfl) T.g_Stamp (b_Stamp_init T) .nil passL (pa_cons (pv 2) pa_nil)))
      (C8.pss_cut (ps_set (i := 7) sc_law.nd rfl (.inl rfl) (pe_make T.mk_Stamp (ok_init T) hr5 (by rfl) T.g_Stamp (b_Stamp_init T) .nil passL (pa_cons (pv 3) pa_nil)))
      (C8.pss_cut (ps_set (i := 8) sc_law.nd rfl (.inl rfl) (pe_lst (pa_cons (pe_lst (pa_cons (pv 6) (pa_cons (pv 5) (pa_cons pe_non (pa_cons pe_str pa_nil))))) (pa_cons (pe_lst (pa_cons (pv 5) (pa_cons (pv 4) (pa_cons pe_non (pa_cons pe_str pa_nil))))) (pa_cons (pe_lst (pa_cons (pv 5) (pa_cons (pv 6) (pa_cons pe_non (pa_cons pe_str pa_nil))))) pa_nil)))))
      (C8.pss_cut (ps_set (i := 8) sc_law.nd rfl (.inl rfl) (pe_op op_cat (pv 8) (pe_lst (pa_cons (pe_lst (pa_cons (pv 6) (pa_cons (pv 5) (pa_cons (pv 6) (pa_cons pe_str pa_nil))))) (pa_cons (pe_lst (pa_cons (pv 5) (pa_cons (pv 4) (pa_cons (pe_make T.mk_Stamp (ok_init T) hr5 (by rfl) T.g_Stamp (b_Stamp_init T) .nil passL (pa_cons (pv 1) pa_nil)) (pa_cons pe_str pa_nil))))) (pa_cons (pe_lst (pa_cons (pv 7) (pa_cons (pv 4) (pa_cons (pv 7) (pa_cons pe_str pa_nil))))) pa_nil))))))
      (C8.pss_cut (ps_set (i := 8) sc_law.nd rfl (.inl rfl) (pe_op op_cat (pv 8) (pe_lst (pa_cons (pe_lst (pa_cons (pv 6) (pa_cons (pv 5) (pa_cons (pv 7) (pa_cons pe_str pa_nil))))) (pa_cons (pe_lst (pa_cons (pv 5) (pa_cons (pv 4) (pa_cons (pv 6) (pa_cons pe_str pa_nil))))) (pa_cons (pe_lst (pa_cons (pv 5) (pa_cons (pv 4) (pa_cons (pv 7) (pa_cons pe_str pa_nil))))) pa_nil))))))
      (C8.pss_cut (ps_set (i := 8) sc_law.nd rfl (.inl rfl) (pe_op op_cat (pv 8) (pe_lst (pa_cons (pe_lst (pa_cons (pv 7) (pa_cons (pv 5) (pa_cons (pv 6) (pa_cons pe_str pa_nil))))) (pa_cons (pe_lst (pa_cons (pv 7) (pa_cons (pv 4) (pa_cons (pv 5) (pa_cons pe_str pa_nil))))) (pa_cons (pe_lst (pa_cons (pv 6) (pa_cons (pv 4) (pa_cons (pv 5) (pa_cons pe_str pa_nil))))) pa_nil))))))
      (C8.pss_cut (ps_set (i := 8) sc_law.nd rfl (.inl rfl) (pe_op op_cat (pv 8) (pe_lst (pa_cons (pe_lst (pa_cons (pv 5) (pa_cons (pv 6) (pa_cons (pv 7) (pa_cons pe_str pa_nil))))) (pa_cons (pe_lst (pa_cons (pv 7) (pa_cons (pv 6) (pa_cons pe_non (pa_cons pe_str pa_nil))))) (pa_cons (pe_lst (pa_cons (pv 5) (pa_cons (pv 7) (pa_cons pe_non (pa_cons pe_str pa_nil))))) pa_nil))))))
      (pss_cons (ps_for PassesOwn.never rfl (pi_range1 rfl T.n_range (pa_cons (pe_callB call_len_seq (by rfl) T.n_len PySem.boot_len (pa_cons (pv 8) pa_nil)) pa_nil)) (pg_name (i := 9) sc_law.nd rfl (.inl rfl))
        (pss_cons (ps_set (i := 10) sc_law.nd rfl (.inl rfl) (pe_ix ix_list (pv 8) (pe_op op_mod (pe_callTy call_int1 (by rfl) T.n_int (by decide +kernel) (pa_cons (pe_op op_add (pe_op op_mul (pv 9) pe_int) (pe_call (ok_cell T) hr1 (by rfl) T.g_law_cell T.F_law_cell.kp (b_law_cell T) .nil pass0 (pa_cons (pv 0) (pa_cons pe_int pa_nil)))) pa_nil)) pe_int) (fun _ _ => rfl)))
        (pss_one (ps_if (pt_not (pt_val (pe_call (ok_told T) hr3 (by rfl) T.g_law_told T.F_law_told.kp (b_law_told T) .nil pass0 (pa_cons (pe_ix ix_list (pv 10) pe_int (fun _ _ => rfl)) (pa_cons (pe_ix ix_list (pv 10) pe_int (fun _ _ => rfl)) (pa_cons (pe_ix ix_list (pv 10) pe_int (fun _ _ => rfl)) (pa_cons (pe_ix ix_list (pv 10) pe_int (fun _ _ => rfl)) pa_nil))))))) (pss_one (ps_ret pe_bl)) pss_nil))))
      (pss_one (ps_ret (pe_and (pe_cmpR op_eq (pe_fld (pv 5) rfl) (pv 1) (nomark _)) (pe_and (pe_cmpR op_eq (pe_fld (pv 6) rfl) (pv 2) (nomark _)) (pe_one (pe_cmpR op_eq (pe_fld (pv 7) rfl) (pv 3) (nomark _))))))))))))))))))), ?_⟩
    have p29 : (0 : Int) < T29 := by decide
    have four : 4 ≤ sizeLine := by decide
    have three : 3 ≤ sizeLine := by decide
    refine ⟨_, rfl, a, ns, 0, rfl, hS, hlen, .inl ⟨_, rfl, _, _, rfl, rfl, ⟨by decide, by decide, by decide⟩, _, _, rfl, rfl, p29, _, _, rfl, rfl, ?_⟩⟩
    refine ⟨_, rfl, _, _, rfl, rfl, _, rfl, a, ns, 1, rfl, hS, hlen, .inl ⟨_, rfl, _, _, rfl, rfl, ⟨by decide, by decide, by decide⟩, _, _, rfl, rfl, p29, _, _, rfl, rfl, ?_⟩⟩
    refine ⟨fun σ H' => ∃ lo mi hi : Int, 0 < lo ∧ lo < mi ∧ mi < hi ∧ hi ≤ top30 ∧ H' = H ∧ σ = [some (.ref a), some (.int lo), some (.int mi), some (.int hi), none, none, none, none, none, none, none], ?_, ?_⟩
    · refine ⟨_, rfl, _, _, rfl, rfl, _, rfl, a, ns, 2, rfl, hS, hlen, .inl ⟨_, rfl, _, _, rfl, rfl, ⟨by decide, by decide, by decide⟩, _, _, rfl, rfl, p29, _, _, rfl, rfl, ?_⟩⟩
      have g0 := Int.emod_nonneg (ns.getD 0 0) (Int.ne_of_gt p29)
      have g1 := Int.emod_nonneg (ns.getD 1 0) (Int.ne_of_gt p29)
      have g2 := Int.emod_nonneg (ns.getD 2 0) (Int.ne_of_gt p29)
      have l0 := Int.emod_lt_of_pos (ns.getD 0 0) p29
      have l1 := Int.emod_lt_of_pos (ns.getD 1 0) p29
      have l2 := Int.emod_lt_of_pos (ns.getD 2 0) p29
      have et : T29 * 10 = top30 := by decide
      have hb : 100 < T29 := by decide
      refine ⟨_, _, _, ?_, ?_, ?_, ?_, rfl, rfl⟩
      · show (0 : Int) < 1 + ns.getD 0 0 % T29
        omega
      · show 1 + ns.getD 0 0 % T29 < 1 + ns.getD 0 0 % T29 + 1 + ns.getD 1 0 % T29
        omega
      · show 1 + ns.getD 0 0 % T29 + 1 + ns.getD 1 0 % T29 < 1 + ns.getD 0 0 % T29 + 1 + ns.getD 1 0 % T29 + 1 + ns.getD 2 0 % T29
        omega
      · show 1 + ns.getD 0 0 % T29 + 1 + ns.getD 1 0 % T29 + 1 + ns.getD 2 0 % T29 ≤ top30
        omega
    rintro σ H1 ⟨lo, mi, hi, o1, o2, o3, o4, rfl, rfl⟩
    have mks : ∀ {H' : Hp} {p dx : Addr} {n : Int}, H' p = none → H' dx = none → Same H' (upd (upd (upd H' dx (.own p)) p (.ins T.c_Stamp dx [])) p (.ins T.c_Stamp dx [(("number" : Str), .int n)])) := fun {H' p dx n} np ndx b o q => by
      rw [upd_ne (ne_of_none q np), upd_ne (ne_of_none q np), upd_ne (ne_of_none q ndx)]
      exact q
    refine fun p0 d0 n0 m0 e0 => ⟨p0, d0, .int 0, rfl, upd_same, rfl, fun _ => ⟨rfl, ?_⟩, fun e => by rw [stampV_in (Int.le_refl 0) (by decide)] at e; cases e⟩
    have s0 := mks (n := 0) n0 m0
    refine ⟨_, rfl, fun p1 d1 n1 m1 e1 => ⟨p1, d1, .int lo, rfl, upd_same, rfl, fun _ => ⟨rfl, ?_⟩, fun e => by rw [stampV_in (by omega) (by omega)] at e; cases e⟩⟩
    have s1 := mks (n := lo) n1 m1
    refine ⟨_, rfl, fun p2 d2 n2 m2 e2 => ⟨p2, d2, .int mi, rfl, upd_same, rfl, fun _ => ⟨rfl, ?_⟩, fun e => by rw [stampV_in (by omega) (by omega)] at e; cases e⟩⟩
    have s2 := mks (n := mi) n2 m2
    refine ⟨fun σ H' => ∃ p3, Same H1 H' ∧ StAt T.c_Stamp H' p0 0 ∧ StAt T.c_Stamp H' p1 lo ∧ StAt T.c_Stamp H' p2 mi ∧ StAt T.c_Stamp H' p3 hi ∧
      σ = [some (.ref a), some (.int lo), some (.int mi), some (.int hi), some (.ref p0), some (.ref p1), some (.ref p2), some (.ref p3), none, none, none], ?_, ?_⟩
    · refine ⟨_, rfl, fun p3 d3 n3 m3 e3 => ⟨p3, d3, .int hi, rfl, upd_same, rfl, fun _ => ⟨rfl, ?_⟩, fun e => by rw [stampV_in (by omega) (by omega)] at e; cases e⟩⟩
      have s3 := mks (n := hi) n3 m3
      exact ⟨p3, ((s0.trans s1).trans s2).trans s3, ⟨d0, s3 _ _ (s2 _ _ (s1 _ _ upd_same))⟩, ⟨d1, s3 _ _ (s2 _ _ upd_same)⟩, ⟨d2, s3 _ _ upd_same⟩, ⟨d3, upd_same⟩, rfl⟩
    rintro σ H4 ⟨p3, sm4, a0, a1, a2, a3, rfl⟩
    refine ⟨fun σ H' => ∃ D zs, Rows T.c_Stamp H4 H' D zs 3 ∧ σ = [some (.ref a), some (.int lo), some (.int mi), some (.int hi), some (.ref p0), some (.ref p1), some (.ref p2), some (.ref p3), some (.ref D), none, none], ?_, ?_⟩
    · have c0 : Same H4 _ := (Same.refl H4)
      refine ⟨_, rfl, _, rfl, four, fun l0 n0 => ?_⟩
      have q0 := ask_new n0 (place_free (by omega)) (a2.same c0) (a1.same c0) (.inl ⟨rfl, rfl⟩)
      have t0 := same_new (o := .lst [.ref p2, .ref p1, .non, .str "free"]) (Same.refl _) n0
      have c1 := c0.trans t0
      refine ⟨_, rfl, _, rfl, four, fun l1 n1 => ?_⟩
      have q1 := ask_new n1 (place_free (by omega)) (a1.same c1) (a0.same c1) (.inl ⟨rfl, rfl⟩)
      have t1 := same_new (o := .lst [.ref p1, .ref p0, .non, .str "free"]) (Same.refl _) n1
      have c2 := c1.trans t1
      refine ⟨_, rfl, _, rfl, four, fun l2 n2 => ?_⟩
      have q2 := ask_new n2 (place_late (by omega)) (a1.same c2) (a2.same c2) (.inl ⟨rfl, rfl⟩)
      have t2 := same_new (o := .lst [.ref p1, .ref p2, .non, .str "late"]) (Same.refl _) n2
      have c3 := c2.trans t2
      refine ⟨three, fun L nL => ?_⟩
      have tL := same_new (o := .lst [.ref l0, .ref l1, .ref l2]) (Same.refl _) nL
      refine ⟨L, _, ⟨c3.trans tL, upd_same, rfl, fun z hz => ?_⟩, rfl⟩
      simp only [List.mem_cons, List.not_mem_nil, or_false] at hz
      rcases hz with rfl | rfl | rfl
      · exact q0.same ((t1.trans t2).trans tL)
      · exact q1.same (t2.trans tL)
      · exact q2.same tL
    rintro σ H5 ⟨D, zs, R, rfl⟩
    refine ⟨fun σ H' => ∃ D zs, Rows T.c_Stamp H4 H' D zs 6 ∧ σ = [some (.ref a), some (.int lo), some (.int mi), some (.int hi), some (.ref p0), some (.ref p1), some (.ref p2), some (.ref p3), some (.ref D), none, none], ?_, ?_⟩
    · refine ⟨_, rfl, ?_⟩
      have c0 : Same H4 _ := R.sm
      refine ⟨_, rfl, _, rfl, _, rfl, four, fun l0 n0 => ?_⟩
      have q0 := ask_new n0 (place_own) (a2.same c0) (a1.same c0) (.inr ⟨p2, mi, rfl, a2.same c0, rfl⟩)
      have t0 := same_new (o := .lst [.ref p2, .ref p1, .ref p2, .str "own"]) (Same.refl _) n0
      have c1 := c0.trans t0
      refine ⟨_, rfl, _, rfl, _, rfl, fun pn dn nn mn en => ⟨pn, dn, .int lo, rfl, upd_same, rfl, fun _ => ⟨rfl, ?_⟩, fun e => by rw [stampV_in (by omega) (by omega)] at e; cases e⟩⟩
      have tn := mks (n := lo) nn mn
      have cn := c1.trans tn
      refine ⟨four, fun l1 n1 => ?_⟩
      have q1 := ask_new n1 (place_own) (a1.same cn) (a0.same cn) (.inr ⟨pn, lo, rfl, ⟨dn, upd_same⟩, rfl⟩)
      have t1 := same_new (o := .lst [.ref p1, .ref p0, .ref pn, .str "own"]) (Same.refl _) n1
      have c2 := cn.trans t1
      refine ⟨_, rfl, _, rfl, _, rfl, four, fun l2 n2 => ?_⟩
      have q2 := ask_new n2 (place_own) (a3.same c2) (a0.same c2) (.inr ⟨p3, hi, rfl, a3.same c2, rfl⟩)
      have t2 := same_new (o := .lst [.ref p3, .ref p0, .ref p3, .str "own"]) (Same.refl _) n2
      have c3 := c2.trans t2
      refine ⟨three, fun L nL => ?_⟩
      have tL := same_new (o := .lst [.ref l0, .ref l1, .ref l2]) (Same.refl _) nL
      refine ⟨D, L, _, _, rfl, rfl, ((((t0.trans tn).trans t1).trans t2).trans tL) _ _ R.hD, upd_same, by rw [R.ln]; exact (by decide : 3 + 3 ≤ sizeLine), fun D2 nD2 => ?_⟩
      have tD := same_new (o := .lst (zs ++ [.ref l0, .ref l1, .ref l2])) (Same.refl _) nD2
      refine ⟨D2, _, ⟨(c3.trans tL).trans tD, upd_same, by rw [List.length_append, R.ln] <;> rfl, fun z hz => ?_⟩, rfl⟩
      rcases List.mem_append.mp hz with hz | hz
      · exact (R.ok z hz).same (((((t0.trans tn).trans t1).trans t2).trans tL).trans tD)
      simp only [List.mem_cons, List.not_mem_nil, or_false] at hz
      rcases hz with rfl | rfl | rfl
      · exact q0.same ((((tn.trans t1).trans t2).trans tL).trans tD)
      · exact q1.same ((t2.trans tL).trans tD)
      · exact q2.same (tL.trans tD)
    rintro σ H5 ⟨D, zs, R, rfl⟩
    refine ⟨fun σ H' => ∃ D zs, Rows T.c_Stamp H4 H' D zs 9 ∧ σ = [some (.ref a), some (.int lo), some (.int mi), some (.int hi), some (.ref p0), some (.ref p1), some (.ref p2), some (.ref p3), some (.ref D), none, none], ?_, ?_⟩
    · refine ⟨_, rfl, ?_⟩
      have c0 : Same H4 _ := R.sm
      refine ⟨_, rfl, _, rfl, _, rfl, four, fun l0 n0 => ?_⟩
      have q0 := ask_new n0 (place_below (by omega) (by omega)) (a2.same c0) (a1.same c0) (.inr ⟨p3, hi, rfl, a3.same c0, rfl⟩)
      have t0 := same_new (o := .lst [.ref p2, .ref p1, .ref p3, .str "below"]) (Same.refl _) n0
      have c1 := c0.trans t0
      refine ⟨_, rfl, _, rfl, _, rfl, four, fun l1 n1 => ?_⟩
      have q1 := ask_new n1 (place_below (by omega) (by omega)) (a1.same c1) (a0.same c1) (.inr ⟨p2, mi, rfl, a2.same c1, rfl⟩)
      have t1 := same_new (o := .lst [.ref p1, .ref p0, .ref p2, .str "below"]) (Same.refl _) n1
      have c2 := c1.trans t1
      refine ⟨_, rfl, _, rfl, _, rfl, four, fun l2 n2 => ?_⟩
      have q2 := ask_new n2 (place_below (by omega) (by omega)) (a1.same c2) (a0.same c2) (.inr ⟨p3, hi, rfl, a3.same c2, rfl⟩)
      have t2 := same_new (o := .lst [.ref p1, .ref p0, .ref p3, .str "below"]) (Same.refl _) n2
      have c3 := c2.trans t2
      refine ⟨three, fun L nL => ?_⟩
      have tL := same_new (o := .lst [.ref l0, .ref l1, .ref l2]) (Same.refl _) nL
      refine ⟨D, L, _, _, rfl, rfl, (((t0.trans t1).trans t2).trans tL) _ _ R.hD, upd_same, by rw [R.ln]; exact (by decide : 6 + 3 ≤ sizeLine), fun D2 nD2 => ?_⟩
      have tD := same_new (o := .lst (zs ++ [.ref l0, .ref l1, .ref l2])) (Same.refl _) nD2
      refine ⟨D2, _, ⟨(c3.trans tL).trans tD, upd_same, by rw [List.length_append, R.ln] <;> rfl, fun z hz => ?_⟩, rfl⟩
      rcases List.mem_append.mp hz with hz | hz
      · exact (R.ok z hz).same ((((t0.trans t1).trans t2).trans tL).trans tD)
      simp only [List.mem_cons, List.not_mem_nil, or_false] at hz
      rcases hz with rfl | rfl | rfl
      · exact q0.same (((t1.trans t2).trans tL).trans tD)
      · exact q1.same ((t2.trans tL).trans tD)
      · exact q2.same (tL.trans tD)
    rintro σ H5 ⟨D, zs, R, rfl⟩
    refine ⟨fun σ H' => ∃ D zs, Rows T.c_Stamp H4 H' D zs 12 ∧ σ = [some (.ref a), some (.int lo), some (.int mi), some (.int hi), some (.ref p0), some (.ref p1), some (.ref p2), some (.ref p3), some (.ref D), none, none], ?_, ?_⟩
    · refine ⟨_, rfl, ?_⟩
      have c0 : Same H4 _ := R.sm
      refine ⟨_, rfl, _, rfl, _, rfl, four, fun l0 n0 => ?_⟩
      have q0 := ask_new n0 (place_above (by omega) (by omega)) (a3.same c0) (a1.same c0) (.inr ⟨p2, mi, rfl, a2.same c0, rfl⟩)
      have t0 := same_new (o := .lst [.ref p3, .ref p1, .ref p2, .str "above"]) (Same.refl _) n0
      have c1 := c0.trans t0
      refine ⟨_, rfl, _, rfl, _, rfl, four, fun l1 n1 => ?_⟩
      have q1 := ask_new n1 (place_above (by omega) (by omega)) (a3.same c1) (a0.same c1) (.inr ⟨p1, lo, rfl, a1.same c1, rfl⟩)
      have t1 := same_new (o := .lst [.ref p3, .ref p0, .ref p1, .str "above"]) (Same.refl _) n1
      have c2 := c1.trans t1
      refine ⟨_, rfl, _, rfl, _, rfl, four, fun l2 n2 => ?_⟩
      have q2 := ask_new n2 (place_above (by omega) (by omega)) (a2.same c2) (a0.same c2) (.inr ⟨p1, lo, rfl, a1.same c2, rfl⟩)
      have t2 := same_new (o := .lst [.ref p2, .ref p0, .ref p1, .str "above"]) (Same.refl _) n2
      have c3 := c2.trans t2
      refine ⟨three, fun L nL => ?_⟩
      have tL := same_new (o := .lst [.ref l0, .ref l1, .ref l2]) (Same.refl _) nL
      refine ⟨D, L, _, _, rfl, rfl, (((t0.trans t1).trans t2).trans tL) _ _ R.hD, upd_same, by rw [R.ln]; exact (by decide : 9 + 3 ≤ sizeLine), fun D2 nD2 => ?_⟩
      have tD := same_new (o := .lst (zs ++ [.ref l0, .ref l1, .ref l2])) (Same.refl _) nD2
      refine ⟨D2, _, ⟨(c3.trans tL).trans tD, upd_same, by rw [List.length_append, R.ln] <;> rfl, fun z hz => ?_⟩, rfl⟩
      rcases List.mem_append.mp hz with hz | hz
      · exact (R.ok z hz).same ((((t0.trans t1).trans t2).trans tL).trans tD)
      simp only [List.mem_cons, List.not_mem_nil, or_false] at hz
      rcases hz with rfl | rfl | rfl
      · exact q0.same (((t1.trans t2).trans tL).trans tD)
      · exact q1.same ((t2.trans tL).trans tD)
      · exact q2.same (tL.trans tD)
    rintro σ H5 ⟨D, zs, R, rfl⟩
    refine ⟨fun σ H' => ∃ D zs, Rows T.c_Stamp H4 H' D zs 15 ∧ σ = [some (.ref a), some (.int lo), some (.int mi), some (.int hi), some (.ref p0), some (.ref p1), some (.ref p2), some (.ref p3), some (.ref D), none, none], ?_, ?_⟩
    · refine ⟨_, rfl, ?_⟩
      have c0 : Same H4 _ := R.sm
      refine ⟨_, rfl, _, rfl, _, rfl, four, fun l0 n0 => ?_⟩
      have q0 := ask_new n0 (place_under (by omega) (by omega)) (a1.same c0) (a2.same c0) (.inr ⟨p3, hi, rfl, a3.same c0, rfl⟩)
      have t0 := same_new (o := .lst [.ref p1, .ref p2, .ref p3, .str "under"]) (Same.refl _) n0
      have c1 := c0.trans t0
      refine ⟨_, rfl, _, rfl, four, fun l1 n1 => ?_⟩
      have q1 := ask_new n1 (place_free (by omega)) (a3.same c1) (a2.same c1) (.inl ⟨rfl, rfl⟩)
      have t1 := same_new (o := .lst [.ref p3, .ref p2, .non, .str "free"]) (Same.refl _) n1
      have c2 := c1.trans t1
      refine ⟨_, rfl, _, rfl, four, fun l2 n2 => ?_⟩
      have q2 := ask_new n2 (place_late (by omega)) (a1.same c2) (a3.same c2) (.inl ⟨rfl, rfl⟩)
      have t2 := same_new (o := .lst [.ref p1, .ref p3, .non, .str "late"]) (Same.refl _) n2
      have c3 := c2.trans t2
      refine ⟨three, fun L nL => ?_⟩
      have tL := same_new (o := .lst [.ref l0, .ref l1, .ref l2]) (Same.refl _) nL
      refine ⟨D, L, _, _, rfl, rfl, (((t0.trans t1).trans t2).trans tL) _ _ R.hD, upd_same, by rw [R.ln]; exact (by decide : 12 + 3 ≤ sizeLine), fun D2 nD2 => ?_⟩
      have tD := same_new (o := .lst (zs ++ [.ref l0, .ref l1, .ref l2])) (Same.refl _) nD2
      refine ⟨D2, _, ⟨(c3.trans tL).trans tD, upd_same, by rw [List.length_append, R.ln] <;> rfl, fun z hz => ?_⟩, rfl⟩
      rcases List.mem_append.mp hz with hz | hz
      · exact (R.ok z hz).same ((((t0.trans t1).trans t2).trans tL).trans tD)
      simp only [List.mem_cons, List.not_mem_nil, or_false] at hz
      rcases hz with rfl | rfl | rfl
      · exact q0.same (((t1.trans t2).trans tL).trans tD)
      · exact q1.same ((t2.trans tL).trans tD)
      · exact q2.same (tL.trans tD)
    rintro σ H5 ⟨D, zs, R, rfl⟩
    refine ⟨_, rfl, D, _, rfl, .inl (SqL.of R.hD), ?_⟩
    rw [R.ln]
    refine ⟨_, rfl, by decide, by decide, for_range (lo := 0) (n := 15) (fun _ σ H' => ∃ v9 v10, Rows T.c_Stamp H4 H' D zs 15 ∧ σ = [some (.ref a), some (.int lo), some (.int mi), some (.int hi), some (.ref p0), some (.ref p1), some (.ref p2), some (.ref p3), some (.ref D), v9, v10]) ⟨_, _, R, rfl⟩ ?_ ?_⟩
    · rintro i σ H' hi ⟨v9, v10, R, rfl⟩
      have pos15 : (0 : Int) < 15 := by decide
      refine ⟨_, rfl, _, rfl, _, _, rfl, rfl, .inl ⟨by omega, by omega⟩, _, rfl, a, ns, 3, rfl, (sm4.trans R.sm).seq hS, hlen, _, _, rfl, rfl, .inl ⟨_, rfl, _, _, rfl, rfl, pos15, ?_⟩⟩
      have g0 := Int.emod_nonneg ((0 + (i : Int)) * 7 + ns.getD 3 0) (Int.ne_of_gt pos15)
      have g1 := Int.emod_lt_of_pos ((0 + (i : Int)) * 7 + ns.getD 3 0) pos15
      obtain ⟨m, hm⟩ := Int.eq_ofNat_of_zero_le g0
      have hm15 : m < zs.length := by
        rw [R.ln]
        omega
      obtain ⟨l, p, q, hv, u, x, hh, ez, hl, sp1, sq1, ho⟩ := R.ok _ (List.getElem_mem hm15)
      refine ⟨D, _, _, zs[m], rfl, rfl, SqL.of R.hD, ?_, ?_⟩
      · show atI zs (((0 + (i : Int)) * 7 + ns.getD 3 0) % 15) = _
        rw [hm]
        exact atI_nat (List.getElem?_eq_getElem hm15)
      rw [ez]
      refine ⟨_, rfl, l, _, _, _, rfl, rfl, SqL.of hl, atI_nat (j := 0) rfl, _, rfl, l, _, _, _, rfl, rfl, SqL.of hl, atI_nat (j := 1) rfl, _, rfl, l, _, _, _, rfl, rfl, SqL.of hl, atI_nat (j := 2) rfl, _, rfl, l, _, _, _, rfl, rfl, SqL.of hl, atI_nat (j := 3) rfl, ?_⟩
      exact ⟨p, q, hv, u, x, hh, rfl, sp1, sq1, ho, true, rfl, _, _, R, rfl⟩
    · rintro σ H' ⟨v9, v10, R, rfl⟩
      obtain ⟨d1, b1⟩ := a1.same R.sm
      obtain ⟨d2, b2⟩ := a2.same R.sm
      obtain ⟨d3, b3⟩ := a3.same R.sm
      refine ⟨_, rfl, p1, _, d1, _, _, rfl, b1, T.cl_Stamp, T.na_Stamp_number, rfl, _, rfl, rfl, true, ?_, ?_⟩
      · simp
      refine iteT ⟨_, rfl, p2, _, d2, _, _, rfl, b2, T.cl_Stamp, T.na_Stamp_number, rfl, _, rfl, rfl, true, ?_, ?_⟩
      · simp
      refine iteT ⟨_, rfl, p3, _, d3, _, _, rfl, b3, T.cl_Stamp, T.na_Stamp_number, rfl, _, rfl, rfl, ?_⟩
      rw [decide_eq_true (rfl : V.int hi = V.int hi)]
      exact k _
end
end K02

namespace K02
open PySem L2
theorem walk {l : PySem.W.OpenLaw} {q : Program} {loose : List Str} {XP : (Str → Option Value) → Heap → Prop} {YP : World → Heap → Prop} {d : DefRec} {K : Params → PySem.W.Frag} (hn : l.most = some 63) (hdf : d.params.defaults = [])
    (hY : ∀ (w : World) (h : Heap), YP w h → (K w.params).In h)
    (F : ∀ (w : World) (mg : Str → Option Value) (fa : Addr) (h : Heap), (K w.params).In h → h.Ns mainGlobals mg → mg d.name = some (.ref fa) →
      ∃ fd : FuncData, (∀ (s : Shared) (u : Value), BindsTo s fd ⟨[u], []⟩ [("_law_script", u)]) ∧ ∀ base : Heap, (K w.params).In base → base.Ns mainGlobals mg → FnOk l.prog w (K w.params) mg base CX0 9 fa fd ["_law_script"] (spLaw (K w.params))) :
    PySem.W.WalkO q loose XP YP l.row.toRowW d [] (fun f vs => PySem.call f vs) :=
  L2.walk_of (n := 63) (k := 9) (x := "_law_script") (CX := fun _ => CX0) (sp := fun w => spLaw (K w.params)) hn (by decide) hdf ⟨rfl, by decide, by decide⟩ hY F (fun _ _ a ns hl _ hS => ⟨a, ns, rfl, hS, hl, fun _ => rfl⟩) fun _ _ _ _ _ z => z
theorem law_fd {K : PySem.W.Frag} {mg : Str → Option Value} (T : Txt K mg) : ∀ (s : Shared) (u : Value), BindsTo s T.d_law ⟨[u], []⟩ [("_law_script", u)] := by
  obtain ⟨⟨oc, od, kV, doc, pm, an, cdv, ct, osl, e, lk, hcd⟩, _⟩ := T.F_law
  rw [e]
  exact fun s u => .of_eq rfl
theorem fin {w : World} {K : PySem.W.Frag} {mg : Str → Option Value} {fa : Addr} (A : ∃ T : Txt K mg, T.f_law = fa) : ∃ fd : FuncData, (∀ (s : Shared) (u : Value), BindsTo s fd ⟨[u], []⟩ [("_law_script", u)]) ∧ ∀ base : Heap, K.In base → base.Ns mainGlobals mg →
    FnOk PySem.Challenge.rw_stamprules_k02_place_of_an_asker.prog w K mg base CX0 9 fa fd ["_law_script"] (spLaw K) := by
  obtain ⟨T, e⟩ := A
  subst e
  exact ⟨T.d_law, law_fd T, fun base _ _ => ok_law T⟩
end K02
open PySem PySem.W PyProof.Rows
set_option maxRecDepth 100000 in
set_option maxHeartbeats 0 in
theorem PySem.Challenge.cw_stamprules_k02_place_of_an_asker_holds : PySem.Challenge.rw_stamprules_k02_place_of_an_asker.Holds := by
  w_on; o_law; k_head; (case hw => w_witness2)
  k_fill
  refine K02.walk (l := PySem.Challenge.rw_stamprules_k02_place_of_an_asker) rfl rfl (fun w h Y => PySem.W.kIn_of Y) ?F
  case F =>
    intro w mg fa h KX G hmg
    refine' K02.fin (K02.all_mk (w := w) KX G hmg ?z_hn ?z_ht ?gc_StampError ?kc_StampError ?gc_BadStamp ?kc_BadStamp ?gc_Stamp ?kc_Stamp ?xl_StampError ?sa_StampError ?xb_StampError ?xt_StampError ?ga_StampError ?gg_StampError ?hd_StampError ?ha_StampError ?hm_StampError ?sb_StampError_StampError ?ko_StampError_StampError ?sb_StampError_BadStamp ?ko_StampError_BadStamp ?kv_StampError ?xl_BadStamp ?sa_BadStamp ?xb_BadStamp ?xt_BadStamp ?ga_BadStamp ?gg_BadStamp ?hd_BadStamp ?ha_BadStamp ?hm_BadStamp ?sb_BadStamp_StampError ?ko_BadStamp_StampError ?sb_BadStamp_BadStamp ?ko_BadStamp_BadStamp ?kv_BadStamp ?na_BadStamp_given ?pg_Stamp ?hd_Stamp ?po_Stamp ?sa_Stamp ?mk_Stamp ?ha_Stamp ?hm_Stamp ?ko_Stamp ?na_Stamp_number ?a_BadStamp_init ?l_BadStamp_init ?c_BadStamp_init ?cl_BadStamp_init ?cv_BadStamp_init ?cw_BadStamp_init ?cx_BadStamp_init ?tp_BadStamp_init ?su_BadStamp_init ?ve_BadStamp_init ?md_BadStamp_init ?ti_BadStamp_init ?z_th ?z_su ?a_Stamp_init ?l_Stamp_init ?c_Stamp_init ?k_Stamp_init ?fn_Stamp_init ?a_Stamp_eq ?l_Stamp_eq ?c_Stamp_eq ?k_Stamp_eq ?fn_Stamp_eq ?a_Stamp_ne ?l_Stamp_ne ?c_Stamp_ne ?k_Stamp_ne ?fn_Stamp_ne ?a_Stamp_lt ?l_Stamp_lt ?c_Stamp_lt ?k_Stamp_lt ?fn_Stamp_lt ?a_Stamp_le ?l_Stamp_le ?c_Stamp_le ?k_Stamp_le ?fn_Stamp_le ?a_Stamp_gt ?l_Stamp_gt ?c_Stamp_gt ?k_Stamp_gt ?fn_Stamp_gt ?a_Stamp_ge ?l_Stamp_ge ?c_Stamp_ge ?k_Stamp_ge ?fn_Stamp_ge ?a_is_stamp ?l_is_stamp ?c_is_stamp ?k_is_stamp ?T1_is_stamp ?a_place ?l_place ?c_place ?k_place ?a_law_cell ?l_law_cell ?c_law_cell ?k_law_cell ?a_law_told ?l_law_told ?c_law_told ?k_law_told ?a_law ?l_law ?c_law ?k_law ?gv_GREATEST ?n_NotImplemented ?n_ValueError ?n_bool ?n_int ?n_isinstance ?n_len ?n_range ?n_str ?n_super)
    (case z_hn => k_is)
    (case z_ht => k_is)
    (case gc_StampError => k_is)
    (case kc_StampError => k_is)
    (case gc_BadStamp => k_is)
    (case kc_BadStamp => k_is)
    (case gc_Stamp => k_is)
    (case kc_Stamp => k_is)
    (case xl_StampError => k_is)
    (case sa_StampError => k_is)
    (case xb_StampError => k_is)
    (case xt_StampError => k_is)
    (case ga_StampError => k_is)
    (case gg_StampError => k_is)
    (case hd_StampError => k_is)
    (case ha_StampError => k_is)
    (case hm_StampError => k_is)
    (case sb_StampError_StampError => first | rfl | k_is)
    (case ko_StampError_StampError => first | rfl | k_is)
    (case sb_StampError_BadStamp => first | rfl | k_is)
    (case ko_StampError_BadStamp => first | rfl | k_is)
    (case kv_StampError => first | rfl | k_is)
    (case xl_BadStamp => k_is)
    (case sa_BadStamp => k_is)
    (case xb_BadStamp => k_is)
    (case xt_BadStamp => k_is)
    (case ga_BadStamp => k_is)
    (case gg_BadStamp => k_is)
    (case hd_BadStamp => k_is)
    (case ha_BadStamp => k_is)
    (case hm_BadStamp => k_is)
    (case sb_BadStamp_StampError => first | rfl | k_is)
    (case ko_BadStamp_StampError => first | rfl | k_is)
    (case sb_BadStamp_BadStamp => first | rfl | k_is)
    (case ko_BadStamp_BadStamp => first | rfl | k_is)
    (case kv_BadStamp => first | rfl | k_is)
    (case na_BadStamp_given => k_is)
    (case pg_Stamp => k_is)
    (case hd_Stamp => k_is)
    (case po_Stamp => k_is)
    (case sa_Stamp => k_is)
    (case mk_Stamp => k_is)
    (case ha_Stamp => k_is)
    (case hm_Stamp => k_is)
    (case ko_Stamp => first | rfl | k_is)
    (case na_Stamp_number => k_is)
    (case a_BadStamp_init => k_is)
    (case l_BadStamp_init => k_is)
    (case c_BadStamp_init => k_is)
    (case cl_BadStamp_init => k_is)
    (case cv_BadStamp_init => k_is)
    (case cw_BadStamp_init => rfl)
    (case cx_BadStamp_init => first | rfl | decide +kernel)
    (case tp_BadStamp_init => first | rfl | decide +kernel)
    (case su_BadStamp_init => first | rfl | k_is)
    (case ve_BadStamp_init => first | rfl | k_is)
    (case md_BadStamp_init => first | rfl | k_is)
    (case ti_BadStamp_init => k_is)
    (case z_th => k_is)
    (case z_su => k_is)
    (case a_Stamp_init => k_is)
    (case l_Stamp_init => k_is)
    (case c_Stamp_init => k_is)
    (case k_Stamp_init => k_is)
    (case fn_Stamp_init => k_is)
    (case a_Stamp_eq => k_is)
    (case l_Stamp_eq => k_is)
    (case c_Stamp_eq => k_is)
    (case k_Stamp_eq => k_is)
    (case fn_Stamp_eq => k_is)
    (case a_Stamp_ne => k_is)
    (case l_Stamp_ne => k_is)
    (case c_Stamp_ne => k_is)
    (case k_Stamp_ne => k_is)
    (case fn_Stamp_ne => k_is)
    (case a_Stamp_lt => k_is)
    (case l_Stamp_lt => k_is)
    (case c_Stamp_lt => k_is)
    (case k_Stamp_lt => k_is)
    (case fn_Stamp_lt => k_is)
    (case a_Stamp_le => k_is)
    (case l_Stamp_le => k_is)
    (case c_Stamp_le => k_is)
    (case k_Stamp_le => k_is)
    (case fn_Stamp_le => k_is)
    (case a_Stamp_gt => k_is)
    (case l_Stamp_gt => k_is)
    (case c_Stamp_gt => k_is)
    (case k_Stamp_gt => k_is)
    (case fn_Stamp_gt => k_is)
    (case a_Stamp_ge => k_is)
    (case l_Stamp_ge => k_is)
    (case c_Stamp_ge => k_is)
    (case k_Stamp_ge => k_is)
    (case fn_Stamp_ge => k_is)
    (case a_is_stamp => k_is)
    (case l_is_stamp => k_is)
    (case c_is_stamp => k_is)
    (case k_is_stamp => k_is)
    (case T1_is_stamp => k_is)
    (case a_place => k_is)
    (case l_place => k_is)
    (case c_place => k_is)
    (case k_place => k_is)
    (case a_law_cell => k_is)
    (case l_law_cell => k_is)
    (case c_law_cell => k_is)
    (case k_law_cell => k_is)
    (case a_law_told => k_is)
    (case l_law_told => k_is)
    (case c_law_told => k_is)
    (case k_law_told => k_is)
    (case a_law => k_is)
    (case l_law => k_is)
    (case c_law => k_is)
    (case k_law => k_is)
    (case gv_GREATEST => k_is)
    (case n_NotImplemented => k_is)
    (case n_ValueError => k_is)
    (case n_bool => k_is)
    (case n_int => k_is)
    (case n_isinstance => k_is)
    (case n_len => k_is)
    (case n_range => k_is)
    (case n_str => k_is)
    (case n_super => k_is)

