import PyProof.Rows.All
import Wide.All
import OpenK.AllK
import Wide.FinOn
import HandS.ForMost
import HandS.Exc
import HandS.TryOnly
import HandS.ExcInit
import HandS.Nested
import KE.KExcSuper
import HandS.Defaults
import HandS.IsInst
import HandS.ExcIs
import HandS.ExcField
import HandS.WordsExc
import HandS.More
import HandS.Codes
import HandS.SlotsOwn
import KE.KExcIs
import HandS.Text
import HandS.Walk
import HandS.FStr
import HandS.CallSlots
import PySem.Challenge.RW_stamprules_k09_short_texts
set_option Elab.async false
set_option linter.all false
set_option maxRecDepth 100000
set_option maxHeartbeats 4000000
/-! An own exception over ValueError, through a chain of own classes, whose own __init__ begins with super().__init__(..): that __init__ keeps a promise. -/
namespace SI
open PySem PySem.Spec PyProof.Rows L2 NdefX

/-- what the written part tells of the class at C, of the class at D in which the __init__ stands, and of that function at f -/
structure SupT (prog : Program) (K : PySem.W.Frag) (mg : Str → Option Value) (D f cda cc : Addr) (F : NF) (fd : FuncData) : Prop where
  oex : OexC K D
  sup : PySem.W.ks_superIn K D D "__init__" = some (some (.builtin "ValueError.__init__"))
  vE : PySem.W.subIn K (.ref D) (.type "ValueError") = some true
  mD : PySem.W.mroIn K D (.ref D) = some true
  th : PySem.W.nsIn K cStatics "thirdparty.any" = some none
  noSuper : mg "super" = none
  cl : F.cl = [(("__class__" : Str), cc)]
  cdF : F.c = cda
  fn : ∃ (oc kV doc pm ct : Value) (od : Option Addr) (an : Option Addr) (osl : Array (Option Value)),
    fd = PySem.W.fnX F.name F.qual F.params F.body F.scope F.cl .none kV doc pm an (.ref cda) ct ∧ K.lookup f = some ⟨oc, od, .func fd, osl⟩
  code : ∃ (ccl : Value) (cdd : Option Addr) (vs : Array Value) (ccs : Array (Option Value)) (file : Str) (tf : Tok), K.lookup cda = some ⟨ccl, cdd, .fields vs, ccs⟩ ∧ vs[2]? = some (.str file tf) ∧ ((prog.main.file : Str) == file) = true
  codeR : PySem.W.codeIn K (.ref cda) F.qual = true
  cell : ∃ (ccl : Value) (cdd : Option Addr) (ccs : Array (Option Value)), K.lookup cc = some ⟨ccl, cdd, .cell (some (.ref D)), ccs⟩
  top : (prog.main.scope.names.lookup ("super" : Str)).isSome = false

theorem clsIn_of {K : PySem.W.Frag} {C : Addr} (T : OexC K C) : ∃ cd, PySem.W.clsIn K C = some cd ∧ cd.mro.contains (.type "object") = true := by
  obtain ⟨nm, q, N, bs, bm, sn, sub, ab, col, dd, k0, k1, k2, k3, k5, hC, hbm⟩ := T.cls
  refine ⟨{ name := nm, bases := bs, mro := .ref C :: bm, ns := N, qualname := q, hasDict := true, slotNames := sn, subclasses := sub, abstract := ab, collection := col, hasDel := false }, ?_, ?_⟩
  · unfold PySem.W.clsIn; rw [hC] <;> rfl
  · exact (PySem.HandSPX.refsVE_contains "object" (.ref C :: bm) hbm).trans (by decide +kernel)

section
variable {prog : Program} {w : World} {A : Around} {E : Value → Shared → Prop} {h : Heap} {g : Array GenState} {d : Drawn} {t : Nat} {os : OsState}
theorem bw_call {K : PySem.W.Frag} {u e C t0 : Addr} {rest : List Value} {Q : Value → Shared → Prop} (T : OexC K C) (X : K.In h) (he : h.get? e = some (HandSPX.excO C t0)) (hu : h.get? u = some (PySem.W.kxs_mw "ValueError.__init__" e)) (hrest : rest.length ≤ sizeLine)
    (hq : ∀ h' t1, (∀ b o, b ≠ e → h.get? b = some o → h'.get? b = some o) → h'.get? e = some (HandSPX.excO C t1) → Q .none ⟨h', g, d, t, os⟩) :
    wpAny (model prog w) A (call (.ref u) rest) Q E ⟨h, g, d, t, os⟩ := by
  obtain ⟨nm, q, N, bs, bm, sn, sub, ab, col, dd, k0, k1, k2, k3, k5, hC, hbm⟩ := T.cls
  have hC' := X _ _ hC
  refine wpAny_call (codeAny_of_tree ?_)
  show wpAny _ A.in1 (callAny (.ref u) ⟨rest, []⟩) _ _ _
  simp only [callAny]
  refine wpAny_bind (wpAny_load hu ?_)
  simp only [PySem.W.kxs_mw, show (Value.type "method-wrapper" == Value.type "method" || Value.type "method-wrapper" == Value.type "builtin_function_or_method" || Value.type "method-wrapper" == Value.type "method-wrapper") = true by decide, if_true]
  refine PySem.W.KFB.if_so (by decide) ?_
  refine wpAny_bind (PySem.W.check_bound_init F.excBase_ValueError.toExcCallFacts hC' he rfl ?_)
  refine wpAny_bind (wpAny_pure (wpAny_pure ?_))
  refine ⟨plainId_quiet F.excBase_ValueError.init.plain _, codeAny_builtin F.excBase_ValueError.initEntry ?_⟩
  exact PySem.W.exc_init_tree (cls := .ref C) (t0 := t0) (dv := none) (c2 := .none) (c3 := .none) (b4 := .bool false) he hrest (fun h' k e' t' => hq h' _ k e')
end

section
variable {X : Cx} {es : List Expr} {ta : TA} {p0 p1 p2 p3 p4 : Pos} {body : List Stmt} {pins : List (Addr × Obj)} {σ : L2.St} {H : Hp} {s : Shared} {a D f cda cc : Addr} {F : NF} {fd : FuncData} {ar : Arg} {Q : Hp → Prop}
/-- super().__init__(..) as a statement of an __init__ -/
theorem sup_stmt {pl : Sem Bool} (T : SupT X.prog X.K X.mg D f cda cc F fd) (henv : X.env = envF F f X.env.locals)
    (hks : F.scope.names.lookup ("super" : Str) = some .globalImplicit) (hkc : F.scope.names.lookup ("__class__" : Str) = some .free)
    (hp : (F.params.posonlyargs ++ F.params.args).head? = some ar) (hka : F.scope.names.lookup ar.arg = some .local) (hN : X.N[0]? = some ar.arg)
    (ha : PA X es ta) (hpl : (backTo p3 (starEach es X.env)).any (·.1) = false) (hst : ∀ (u : Value) (Q' : Args → Shared → Prop) (s' : Shared), wpAny (model X.prog X.w) X.A (spliced (backTo p3 (starEach es X.env))) (fun vs s₁ => Q' ⟨vs, []⟩ s₁) X.xe s' → wpAny (model X.prog X.w) X.A (evalArgs u true (backTo p3 (starEach es X.env)) []) Q' X.xe s')
    (hev : eval (.Call (.Attribute (.Call (.Name "super" p0) [] [] p1) "__init__" p2) es [] p3) X.env = (do
      let ov ← attributeBase (.Call (.Name "super" p0) [] [] p1) "__init__" X.env (eval (.Call (.Name "super" p0) [] [] p1) X.env)
      standAt p2.atName
      let (f, first) ← holding [ov] (getMethod ov "__init__" pl)
      callWith p3 f first (backTo p3 (starEach es X.env)) []))
    (hsw : swapsWith (.Call (.Attribute (.Call (.Name "super" p0) [] [] p1) "__init__" p2) es [] p3) none p4.line X.env = pure false)
    (I : Inv X pins σ H s) (e0 : σ[0]? = some (some (.ref a))) (ea : H a = some (exo a D none))
    (h : ta σ H fun vs H1 => vs.length ≤ 1000 ∧ H1 a = some (exo a D none) ∧ Q H1) :
    _root_.PySem.wpAt (model X.prog X.w) X.A (.func body X.env) (exec (.Expr (.Call (.Attribute (.Call (.Name "super" p0) [] [] p1) "__init__" p2) es [] p3) p4) X.env) (fun fl s' => fl = .next ∧ ∃ H', Inv X pins σ H' s' ∧ Q H') X.xe s := by
  obtain ⟨fn, _⟩ : True ∧ True := ⟨trivial, trivial⟩
  obtain ⟨oc, kV, doc, pm, ct, od, an, osl, rfl, hfn⟩ := T.fn
  obtain ⟨ccl, cdd, vs, ccs, file, tf, hcode, hvs, hfile⟩ := T.code
  obtain ⟨cl, cld, csl, hcell⟩ := T.cell
  obtain ⟨cdD, hD, hob⟩ := clsIn_of T.oex
  have KX := I.kIn
  have hki : ∀ x, X.env.kindOf x = List.lookup x F.scope.names := fun x => by rw [henv] <;> rfl
  have hkind : X.env.scope.kind = .function := I.ok.kind
  obtain ⟨oD, hD1, hD2⟩ : ∃ oD, s.heap.get? D = some oD ∧ oD.data = .cls cdD := by
    unfold PySem.W.clsIn at hD
    split at hD
    · rename_i c d cd' sl ho
      cases hD
      exact ⟨_, KX _ _ ho, rfl⟩
    · cases hD
  obtain ⟨t1, ho⟩ := exo_at I.hok ea
  have hxD : a ≠ D := by
    rintro rfl
    rw [ho] at hD1
    cases hD1
    cases hD2
  refine ks_wpAt_Expr_any (ks_wpAt_MethodCall (pl := pl) ?_ hev) (by simp [interactive, hkind]) hsw
  have hcells : X.env.cells = [(("__class__" : Str), cc)] := by rw [henv]; exact T.cl
  refine ks_wpAt_super_base (f := f) (cc := cda) (of := ⟨oc, od, .func (PySem.W.fnX F.name F.qual F.params F.body F.scope F.cl .none kV doc pm an (.ref cda) ct), osl⟩) (oc := ⟨ccl, cdd, .fields vs, ccs⟩)
    (by rw [hki]; exact hks) (by rw [hki]; exact hkc) (by decide +kernel) (by rw [henv] <;> rfl) (KX _ _ hfn) rfl hp (by rw [henv, ← T.cdF] <;> rfl) (KX _ _ hcode) rfl hvs hfile T.top ?_
  obtain ⟨mb, hb1, hb2⟩ := I.mod.blt
  refine PySem.W.ks_loadName_global hkind (by rw [hki]; exact hks) (PySem.Calls.loadGlobal_builtin (by rw [I.ok.glob]; exact I.mod.glob.keeps I.bk) T.noSuper (by rw [I.ok.blt]; exact hb1.keeps I.bk) ((hb2 _ (by decide)).trans (by decide +kernel : bootBuiltins ("super" : Str) = some (.type "super"))) ⟨rfl, ?_⟩)
  refine wpAny_loadName_free hkind (by rw [hki]; exact hkc) (by rw [hcells]; rfl) ⟨_, KX _ _ hcell, rfl⟩ ?_
  obtain ⟨m, hn, hl⟩ := I.loc
  obtain ⟨u, ru, lk⟩ := hl 0 ar.arg (.ref a) hN e0 (by rw [henv]; exact Or.inl hka)
  obtain rfl : u = Value.ref a := ru
  have hm : m ar.arg = some (.ref a) := by
    rcases lk with ⟨_, z⟩ | ⟨z, _⟩
    · exact z
    · rw [hki, hka] at z
      rcases z with z | z <;> cases z
  refine wpAny_loadName_local hkind (by rw [hki]; exact hka) hn hm ?_
  obtain ⟨hh, g, d, t, os⟩ := s
  refine ks_wpAny_isType_cls hD1 hD2 ⟨rfl, ?_⟩
  refine ks_wpAny_call_super hD1 hD2 ho rfl (fun c e => by cases e) (PySem.W.looks_mroIn KX T.mD) (fun h' hso kp => ?_)
  -- the super object stands at so; now its __init__
  have I1 : Inv X pins σ H ⟨h', g, d, t, os⟩ := I.kept (t' := t) kp
  have KX1 := I1.kIn
  have ho1 := kp _ _ ho
  have hB : PySem.W.Looks (model X.prog X.w) h' (isInstance (.ref a) (.type "ValueError")) true :=
    (PySem.W.InstAt.type (x := a) (ox := HandSPX.excO D t1) (C := D) (od := none) ⟨ho1, rfl, rfl, trivial⟩).andThen (PySem.W.looks_subIn KX1 T.vE)
  have hf := T.sup
  unfold PySem.W.ks_superIn at hf
  rw [hD] at hf
  refine PySem.W.kxs_getMethod (K := X.K) PySem.W.kxs_ValueError hso (PySem.W.looks_opaque KX1 T.th) (l₀ := cdD.mro) ?_ rfl KX1 hf hB hxD (by decide +kernel) ?_
  · exact fun A Q E s k q => wpAny_bind ((PySem.W.looks_clsIn KX1 hD) A _ E s k (wpAny_pure q))
  -- the arguments
  have kp2 : ∀ b u, h'.get? b = some u → (h'.push (PySem.W.kxs_mw "ValueError.__init__" a)).get? b = some u := fun b u e => Heap.get?_push_of_some _ e
  have I2 : Inv X pins σ H ⟨h'.push (PySem.W.kxs_mw "ValueError.__init__" a), g, d, t + 1, os⟩ := I1.kept (t' := t + 1) kp2
  have hu : (h'.push (PySem.W.kxs_mw "ValueError.__init__" a)).get? h'.objs.size = some (PySem.W.kxs_mw "ValueError.__init__" a) := Heap.get?_push_size _ rfl
  have I3 : Inv X (pins ++ [(h'.objs.size, PySem.W.kxs_mw "ValueError.__init__" a)]) σ H ⟨h'.push (PySem.W.kxs_mw "ValueError.__init__" a), g, d, t + 1, os⟩ := by
    refine I2.pins_of fun p hp => ?_
    rcases List.mem_append.mp hp with hp | hp
    · exact I2.pin p (List.mem_append_right _ hp)
    · rw [List.mem_singleton] at hp
      subst hp
      refine ⟨hu, I1.hok.fresh (Nat.le_refl _), ?_, I1.nofs (Nat.le_refl _), fun v z => by cases z⟩
      exact fun z => absurd (I1.lt) (by rw [← z]; exact Nat.lt_irrefl _)
  refine PySem.W.kxs_callWith (i := "ValueError.__init__") (x := a) hpl (hst _ _ _ (thn (ha.run p3 _ _ σ H _ I3 h) fun us s1 ⟨vs1, H1, J, r1, hz, ea1, q⟩ => ?_))
  have hu1 := (J.pin (h'.objs.size, PySem.W.kxs_mw "ValueError.__init__" a) (by simp)).1
  refine ⟨hu1, ?_⟩
  have J0 : Inv X pins σ H1 s1 := J.pins_of fun p hp => J.pin p (List.mem_append_right _ (List.mem_append_left _ hp))
  obtain ⟨t2, ho2⟩ := exo_at J.hok ea1
  obtain ⟨h1, g1, d1, tk1, os1⟩ := s1
  have hlen : us.length ≤ sizeLine := by
    rw [← Paired.length r1, sizeLine_eq]
    omega
  refine bw_call T.oex J.kIn ho2 hu1 hlen fun h2 t3 k hx => ⟨rfl, H1, ?_, q⟩
  have W := J0.write (t' := tk1) (x := a) (e := a) (o := exo a D none) (by rw [ea1]; exact True.intro) (.inl rfl) k ⟨_, hx⟩ (exo_ok hx)
  have eu : upd H1 a (exo a D none) = H1 := by
    funext b
    by_cases hb : b = a
    · rw [hb, upd_same, ea1]
    · rw [upd_ne hb]
  rw [eu] at W
  exact W
end

section
variable {CX : CXT} {P : Program} {w : World} {K : PySem.W.Frag} {mg : Str → Option Value} {base : Heap} {k : Nat} {D f cda cc : Addr} {F : NF} {fd : FuncData} {N ps : List Str} {sp : Sp} {es : List Expr} {rest : List Stmt} {p0 p1 p2 p3 p4 : Pos} {ar : Arg}
abbrev sfr : List Str := [("__class__" : Str)]
abbrev st0 (N : List Str) (vs : List V) : L2.St := startF N vs [none]
/-- THE RULE: an exception's __init__ that begins with super().__init__(..) -/
theorem ok_sup (T : SupT P K mg D f cda cc F fd) (S : NScope N ps sfr F.scope) (hbody : F.body = .Expr (.Call (.Attribute (.Call (.Name "super" p0) [] [] p1) "__init__" p2) es [] p3) p4 :: rest)
    (hks : F.scope.names.lookup ("super" : Str) = some .globalImplicit) (hp : (F.params.posonlyargs ++ F.params.args).head? = some ar) (hps : ps[0]? = some ar.arg)
    (len : ∀ vs H Q E, sp vs H Q E → vs.length = ps.length)
    (hb : ∀ (A : Around) (outer : List Env) (s : Shared) (H : Hp) (vs : List V) (Q : VK) (E : XK), Room k (A.deeper (envF F f s.heap.objs.size)) → sp vs H Q E →
      ∃ (a : Addr) (ta : TA) (t : TS) (pl : Sem Bool), PA (ncx CX P w K mg base N F f A outer s H E) es ta ∧ PSs (ncx CX P w K mg base N F f A outer s H E) rest t ∧
        (backTo p3 (starEach es (envF F f s.heap.objs.size))).any (·.1) = false ∧
        (∀ (M : Model) (B : Around) (u : Value) (Q' : Args → Shared → Prop) (E' : Value → Shared → Prop) (s' : Shared), wpAny M B (spliced (backTo p3 (starEach es (envF F f s.heap.objs.size)))) (fun vs s₁ => Q' ⟨vs, []⟩ s₁) E' s' → wpAny M B (evalArgs u true (backTo p3 (starEach es (envF F f s.heap.objs.size))) []) Q' E' s') ∧
        eval (.Call (.Attribute (.Call (.Name "super" p0) [] [] p1) "__init__" p2) es [] p3) (envF F f s.heap.objs.size) = (do
          let ov ← attributeBase (.Call (.Name "super" p0) [] [] p1) "__init__" (envF F f s.heap.objs.size) (eval (.Call (.Name "super" p0) [] [] p1) (envF F f s.heap.objs.size))
          standAt p2.atName
          let (g, first) ← holding [ov] (getMethod ov "__init__" pl)
          callWith p3 g first (backTo p3 (starEach es (envF F f s.heap.objs.size))) []) ∧
        swapsWith (.Call (.Attribute (.Call (.Name "super" p0) [] [] p1) "__init__" p2) es [] p3) none p4.line (envF F f s.heap.objs.size) = pure false ∧
        vs[0]? = some (.ref a) ∧ H a = some (exo a D none) ∧ ta (st0 N vs) H fun ws H1 => ws.length ≤ 1000 ∧ H1 a = some (exo a D none) ∧ t { nx := fun _ H' => Q .non H', rt := Q } (st0 N vs) H1) :
    FnOk P w K mg base CX (k + 1) f fd ps sp := by
  refine ⟨len, fun A outer s H args us vs Q E hr e0 hbd r hsp => ?_⟩
  have hl := len _ _ _ _ hsp
  have KX : K.In s.heap := e0.mod.kin.keeps fun b o e => (e0.bs b o e).1
  have lim : s.heap.NoLimit := e0.mod.nolimit.keeps fun b o e => (e0.bs b o e).1
  obtain ⟨oc, kV, doc, pm, ct, od, an, osl, efd, hfn⟩ := T.fn
  obtain ⟨cl, cld, csl, hcell⟩ := T.cell
  have hcc := KX _ _ hcell
  have hHc : H cc = none := (e0.bs _ _ (e0.mod.kin _ _ hcell)).2
  have C : CellsAt F.cl sfr [none] s.heap H := by
    rw [T.cl]
    refine ⟨rfl, fun y c e => ?_, fun x y c e1 e2 => ?_, fun i y hy => ?_⟩
    · have ec : c = cc := by
        simp only [List.lookup] at e
        split at e
        · exact (Option.some.inj e).symm
        · cases e
      subst ec
      exact ⟨hHc, _, _, hcc, rfl⟩
    · have key : ∀ {z : Str}, List.lookup z [(("__class__" : Str), cc)] = some c → z = ("__class__" : Str) := fun {z} e => by
        simp only [List.lookup] at e
        split at e
        · rename_i q
          exact eq_of_beq q
        · cases e
      rw [key e1, key e2]
    · cases i with
      | zero =>
        have hy' : some ("__class__" : Str) = some y := hy
        cases hy'
        exact ⟨cc, by simp [List.lookup], fun v e => by cases e⟩
      | succ i =>
        have : sfr[i + 1]? = none := rfl
        rw [this] at hy
        cases hy
  have hka : F.scope.names.lookup ar.arg = some .local := S.par _ (List.mem_of_getElem? hps)
  have hkc : F.scope.names.lookup ("__class__" : Str) = some .free := S.frk _ (by simp)
  have hN : N[0]? = some ar.arg := by
    have q : (ps ++ sfr)[0]? = some ar.arg := by
      rw [List.getElem?_append_left (List.getElem?_eq_some_iff.mp hps).1]
      exact hps
    rw [← S.pre, List.getElem?_take_of_lt (by have := (List.getElem?_eq_some_iff.mp hps).1; omega)] at q
    exact q
  subst efd
  refine PySem.ks_codeAny_call_defAt (fd := PySem.W.fnX F.name F.qual F.params F.body F.scope F.cl .none kV doc pm an (.ref cda) ct) (body := F.body) hr.depth (KX _ _ hfn) rfl lim (PySem.W.codeRec_of KX T.codeR) rfl hbd S.nocell (fun ⟨n, _⟩ hy => S.par n (List.of_mem_zip hy).1) (fun h₁ hns kp => ?_) S.co S.gen S.kind
  obtain ⟨a, ta, t, pl, hPA, hPS, hpl, hst, hev, hsw, ea, eH, hq⟩ := hb A outer s H vs Q E (hr.deeper _) hsp
  have I : Inv (ncx CX P w K mg base N F f A outer s H E) [] (startF N vs [none]) H { s with heap := h₁, toks := s.toks + (ps.zip us).length } := inv_startN S hr.hd e0 hl r C hns kp
  have eenv : PySem.callEnv (PySem.W.fnX F.name F.qual F.params F.body F.scope F.cl .none kV doc pm an (.ref cda) ct) s.heap.objs.size f = envF F f s.heap.objs.size := by
    rw [← T.cdF]
    rfl
  rw [eenv]
  have fin : ∀ {s' : Shared} {σ' : L2.St} {H' : Hp} {v : V} {u : Value}, Inv (ncx CX P w K mg base N F f A outer s H E) [] σ' H' s' → L2.RelV v u → Q v H' → CE outer P w H s Q u s' :=
    fun {s' σ' H' v u} J rv q => ⟨v, H', J.os, J.bare, J.base, J.hok, rv, q⟩
  rw [hbody]
  have e0' : (startF N vs [none])[0]? = some (some (V.ref a)) := by
    unfold startF
    have hi := (List.getElem?_eq_some_iff.mp ea).1
    rw [List.getElem?_append_left (by rw [List.length_map]; exact hi), List.getElem?_map, ea]
    rfl
  have first := sup_stmt (X := ncx CX P w K mg base N F f A outer s H E) (body := F.body) (pl := pl) T rfl hks hkc hp hka hN hPA hpl (fun u Q' s' z => hst _ _ u Q' _ s' z) hev hsw I e0' eH hq
  rw [hbody] at first
  refine PySem.ks_wpAt_execs_cons (PySem.ks_wpAt_mono first (fun fl s' hs => ?_) fun e s' hs => hs)
  obtain ⟨rfl, H1, J, q⟩ := hs
  refine PySem.wpAt_of_wpAny (wpAny_mono (hPS.run [] s' _ H1 _ J q) (fun fl s2 hs => ?_) fun e s2 hs => hs)
  cases fl with
  | ret u =>
    obtain ⟨v, σ', H', J, rv, q⟩ := hs
    exact fin J rv q
  | next =>
    obtain ⟨σ', H', J, q⟩ := hs
    exact fin (v := V.non) (u := Value.none) J rfl q
  | brk =>
    obtain ⟨_, _, _, q⟩ := hs
    exact False.elim q
  | cont =>
    obtain ⟨_, _, _, q⟩ := hs
    exact False.elim q
end
end SI

/-! Rules of our own over the hand layer: a comparison by an own method, isinstance of a caught error that has fields, an instance made within a try. -/
namespace CM
open PySem PySem.Spec PyProof.Rows L2
section
variable {X : Cx} {CX : CXT} {pins : List (Addr × Obj)} {σ : L2.St} {H : Hp} {s : Shared} {a C g : Addr} {n : Nat} {sp : Sp} {E : XK}
/-- x op y, both instances of the class at C, whose own def for op is at g -/
def rOwnI (C : Addr) (sp : Sp) (E : XK) : R2 := fun x y H Q => ∃ a dx fs b dy gs, x = .ref a ∧ y = .ref b ∧ H a = some (.ins C dx fs) ∧ H b = some (.ins C dy gs) ∧ sp [x, y] H Q E
theorem op_ownI {op : CmpOp} (hop : ∀ a b, compareOp op a b = richCompare op a b) (hs : PySem.W.findIn X.K (.ref C) (cmpInfo op).2.1 = some (some (.ref g))) (hf : PySem.W.isFn X.K (.ref g) = true) (F : FnR X.prog X.w X.K X.mg X.base CX n g sp)
    (hr : Room n X.A) (hx : Passes CX X E) : OpR X (compareOp op) (rOwnI C sp E) := by
  intro pins s σ H x y v u Q I rx ry h
  obtain ⟨a, dx, fs, b, dy, gs, rfl, rfl, ha, hb, q⟩ := h
  cases (show v = Value.ref a from rx)
  cases (show u = Value.ref b from ry)
  obtain ⟨mA, O, _⟩ := ins_get I.hok ha
  obtain ⟨od, J, _⟩ := O.look
  obtain ⟨mB, O', _⟩ := ins_get I.hok hb
  obtain ⟨od', J', _⟩ := O'.look
  obtain ⟨m, hF⟩ := I.fr
  rw [hop]
  refine PySem.W.cmp_K (op := op) (tb := .ref C) hr.units0 hF I.ok.mod.kin J J'.type (by simp [PySem.W.notFirst]) hs hf ?_
  refine wpAny_mono (wpAny_call (run_fnR (us := [.ref a, .ref b]) (vs := [.ref a, .ref b]) F hr hx I (.cons rfl (.cons rfl .nil)) q)) (fun w s' z => ?_) fun _ _ x => x
  obtain ⟨z', H', I', rz, qz⟩ := z
  exact SlX.cmpback rz ⟨z', H', I', rz, qz⟩
end
/-- isinstance(e, c), e the exception that the suite holds (its class cls, its dict d), with fields of its own -/
def rIsD (K : PySem.W.Frag) (D a : Addr) (cls : Value) (d : Option Addr) : List V → Hp → VK → Prop := fun xs H Q => ∃ (c : V) (cv : Value) (b : Bool) (dd : Addr) (fs : List (Str × V)), xs = [.ref a, c] ∧ cls = .ref D ∧ d = some dd ∧ ClsV c cv ∧ PySem.W.kitOne K (.ref D) cv = some b ∧ H dd = some (.xd fs) ∧ Q (.bl b) H
theorem call_isD {X : Cx} {a D : Addr} {cls : Value} {d : Option Addr} {oe : Obj} {pn : List (Addr × Obj)} (C : ExcC X.K D) (hz : Zc cls d oe) (hf : ∃ vs, oe.data = .fields vs) : CallR (X.suite a ((a, oe) :: pn)) (.builtin "isinstance") (rIsD X.K D a cls d) := by
  intro pins s σ H xs us Q I r h
  obtain ⟨c, cv, b, dd, fs, rfl, rfl, rfl, hcv, e, ea, q⟩ := h
  cases r with
  | cons rx rr =>
    cases rr with
    | cons rt rr =>
      cases rr
      cases rx
      have ec := hcv.eq rt
      subst ec
      obtain ⟨hget, _⟩ := I.pin (a, oe) (List.mem_append.mpr (.inl List.mem_cons_self))
      obtain ⟨vs, hv⟩ := hf
      have hx : ObjOk X.prog X.w H s.heap dd (.xd fs) := I.hok dd _ ea
      obtain ⟨mA, hns, hr⟩ := hx
      obtain ⟨od, ho, hl⟩ := lookIn_ns hns
      have J : PySem.W.InstAt s.heap a oe D (some od) := ⟨hget, hz.1, by unfold PySem.W.notCls; rw [hv] <;> rfl, by rw [hz.2]; exact ho⟩
      have hcl : (PySem.W.clsIn X.K D).isSome = true := by
        obtain ⟨cd, hc, _⟩ := PySem.W.any_some C.hd
        rw [hc]
        rfl
      exact PySem.W.kia_one (PySem.W.kitx_exc hcl C.hg C.hk C.hs C.ha C.hn C.ht C.hm) I.kIn J e (fun z => by cases hcv <;> cases z) fun tk => ⟨.bl b, H, I.kept (t' := tk) fun _ _ z => z, rfl, q⟩
/-- an object that stands, behind a new one -/
theorem kp {H : Hp} {p q : Addr} {o o' : HO} (n : H p = none) (h : H q = some o) : upd H p o' q = some o := by
  rw [upd_ne (ne_of_none h n)]
  exact h
theorem same_new {H H' : Hp} {p : Addr} {o : HO} (s : Same H H') (n : H' p = none) : Same H (upd H' p o) := fun b o' h => kp n (s b o' h)
section
variable {X : Cx} {CX : CXT} {k : Nat} {f C : Addr} {fd : FuncData} {ps : List Str} {sp : Sp} {E : L2.St → XK} {x : Str} {p pos : Pos} {e : Expr} {es : List Expr} {t : TA} {ds : List Value} {dvs : List V}
/-- C(e, ..) whose __init__ may raise, within a try -/
def tMakeS (C : Addr) (sp : Sp) (dvs : List V) (E : L2.St → XK) (t : TA) : TE := fun σ H Q => t σ H fun vs H1 => ∀ x dx, H1 x = none → H1 dx = none → dx ≠ x →
  sp (.ref x :: (vs ++ dvs)) (upd (upd H1 dx (.own x)) x (.ins C dx [])) (fun v H2 => v = .non ∧ Q (.ref x) H2) (E σ)
theorem pe_makeS (M : Mk X.K C f) (F : FnOk X.prog X.w X.K X.mg X.base CX k f fd ps sp) (hr : Room (k + 1) X.A) (hg : Gl X x) (hm : X.mg x = some (.ref C)) (hb : Binds X.K fd ps ds) (hd : Vals dvs ds) (hx : ∀ σ, PassesAt CX X σ (E σ))
    (ha : PA X (e :: es) t) (hdb : (x == ("__debug__" : Str)) = false := by decide) (he : starEach (e :: es) X.env = (false, eval e X.env) :: starEach es X.env := by rfl) (hpl : (backTo pos (starEach es X.env)).any (·.1) = false := by rfl) :
    PE X (.Call (.Name x p) (e :: es) [] pos) (tMakeS C sp dvs E t) := by
  refine ⟨fun pins s σ H Q I h => ?_⟩
  refine wpAny_Call_Name_kw (ld_glob I hg hm ?_ hdb)
  refine PySem.W.callWith_K (h₀ := X.base) I.ok.mod.kin M.kp (thn (ha.run pos pins s σ H _ I h) fun us s1 ⟨vs, H1, I1, r, q⟩ => ⟨I1.kIn, ?_⟩) he hpl
  have hq := q (s1.heap.objs.size + 1) s1.heap.objs.size (I1.hok.fresh (Nat.le_succ _)) (I1.hok.fresh (Nat.le_refl _)) (Nat.ne_of_lt (Nat.lt_succ_self _))
  have I2 := Inv.made (C := C) I1
  have r2 : Vals (V.ref (s1.heap.objs.size + 1) :: (vs ++ dvs)) (Value.ref (s1.heap.objs.size + 1) :: (us ++ ds)) := .cons rfl (r.append hd)
  have hl : (Value.ref (s1.heap.objs.size + 1) :: us ++ ds).length = ps.length := by
    have e := r2.length
    rw [F.len _ _ _ _ hq] at e
    exact e.symm
  refine wpAny_call (make_map (f := f) I1.kIn M.makes M.init (beq_iff_eq.mp M.fn) (codeAny_mono (F.run _ X.stack _ _ ⟨Value.ref (s1.heap.objs.size + 1) :: us, []⟩ (Value.ref (s1.heap.objs.size + 1) :: (us ++ ds)) _ _ (E σ) (hr.make C us [])
    (I2.env0.make C us []) (hb _ (Value.ref (s1.heap.objs.size + 1) :: us) I2.kIn hl) r2 hq) fun r s' hq' => ?_))
  cases r with
  | error e => exact hx σ pins _ _ e s' I2 hq'
  | ok fl =>
    cases fl with
    | ret u =>
      obtain ⟨v, H', I3, rv, ev, q3⟩ := I2.after hq'
      subst ev
      exact ⟨rv, ⟨V.ref (s1.heap.objs.size + 1), H', I3, rfl, q3⟩⟩
    | next => exact False.elim hq'
    | brk => exact False.elim hq'
    | cont => exact False.elim hq'
end
end CM

/-! A written dict from texts to texts: d[k], k not in d. -/
namespace CM
open PySem PySem.Spec PyProof.Rows L2
/-- the heap behind an error that was made with one field -/
theorem raise_heap {H : Hp} {a d : Addr} {o1 x o2 y : HO} (ha : H a = none) : upd (del (upd (upd (upd H a o1) d x) a o2) a) d y = upd H d y := by
  funext b
  by_cases hbd : b = d
  · rw [hbd, upd_same, upd_same]
  · rw [upd_ne hbd, upd_ne hbd]
    by_cases hba : b = a
    · rw [hba, del_same, ha]
    · rw [del_ne hba, upd_ne hba, upd_ne hbd, upd_ne hba]
theorem cut_head {z : Str} : TL.tl (cutS z none (some 1)) = (TL.tl z).take 1 := by
  show (z.cps.toList.drop (HT.sIx z.length 0 none)).take (HT.sIx z.length z.length (some ((1 : Nat) : Int)) - HT.sIx z.length 0 none) = _
  rw [HT.sIx_none, HT.sIx_nat, List.drop_zero, Nat.sub_zero]
  have e : z.length = z.cps.toList.length := TL.len_tl z
  rw [e]
  show _ = z.cps.toList.take 1
  generalize z.cps.toList = l
  cases l with
  | nil => rfl
  | cons c d =>
    have : min 1 (c :: d).length = 1 := by simp
    rw [this]
theorem cut_tail {z : Str} : TL.tl (cutS z (some 1) none) = (TL.tl z).drop 1 := by
  show (z.cps.toList.drop (HT.sIx z.length 0 (some ((1 : Nat) : Int)))).take (HT.sIx z.length z.length none - HT.sIx z.length 0 (some ((1 : Nat) : Int))) = _
  rw [HT.sIx_none, HT.sIx_nat]
  have e : z.length = z.cps.toList.length := TL.len_tl z
  rw [e]
  show _ = z.cps.toList.drop 1
  generalize z.cps.toList = l
  cases l with
  | nil => rfl
  | cons c d =>
    have : min 1 (c :: d).length = 1 := by simp
    rw [this]
    have l : ((c :: d).drop 1).length = (c :: d).length - 1 := List.length_drop
    rw [List.take_of_length_le (by omega)]
/-- at p the written dict of the pairs kvs -/
def WDct (K : PySem.W.Frag) (w : World) (p : Addr) (kvs : List (Str × Str)) : Prop :=
  ∃ es n, K.lookup p = some ⟨.type "dict", none, .dict es n, #[]⟩ ∧ PySem.W.KeysLit w.params es.toList ∧ (p == sysModules) = false ∧ Paired (fun (e : DictEntry) (q : Str × Str) => (∃ t, e.key = .str q.1 t) ∧ ∃ t, e.val = .str q.2 t) es.toList kvs
theorem wd_find : ∀ {es : List DictEntry} {kvs : List (Str × Str)}, Paired (fun (e : DictEntry) (q : Str × Str) => (∃ t, e.key = .str q.1 t) ∧ ∃ t, e.val = .str q.2 t) es kvs → ∀ z : Str,
    match kvs.lookup z with
    | some y => ∃ t, (es.find? fun e => PySem.Value.isStrOf z e.key).map (·.val) = some (.str y t)
    | none => (es.find? fun e => PySem.Value.isStrOf z e.key).map (·.val) = none
  | _, _, .nil, _ => rfl
  | e :: es, (a, b) :: kvs, .cons ⟨⟨t, hk⟩, u, hv⟩ r, z => by
    have ih := wd_find r z
    have ek : PySem.Value.isStrOf z e.key = (a == z) := by rw [hk] <;> rfl
    by_cases h : z = a
    · subst h
      have l : ((z, b) :: kvs).lookup z = some b := by simp [List.lookup]
      rw [l]
      refine ⟨u, ?_⟩
      rw [List.find?_cons, ek]
      simp [hv]
    · have l : ((a, b) :: kvs).lookup z = kvs.lookup z := by
        have : (z == a) = false := by simpa using h
        simp [List.lookup, this]
      have n : (a == z) = false := by
        have : ¬ a = z := fun q => h q.symm
        simpa using this
      rw [l, List.find?_cons, ek, n]
      exact ih
theorem wd_findBy {es : Array DictEntry} {kvs : List (Str × Str)} (r : Paired (fun (e : DictEntry) (q : Str × Str) => (∃ t, e.key = .str q.1 t) ∧ ∃ t, e.val = .str q.2 t) es.toList kvs) (z : Str) :
    findBy PySem.Value.isStrOf es z = (es.toList.find? fun e => PySem.Value.isStrOf z e.key).map (·.val) := by
  obtain ⟨l⟩ := es
  simp [findBy]
def rNotInW (K : PySem.W.Frag) (w : World) : R2 := fun x y H Q => ∃ z p kvs, x = .str z ∧ y = .ref p ∧ WDct K w p kvs ∧ Q (.bl (!(kvs.lookup z).isSome)) H
def rIxW (K : PySem.W.Frag) (w : World) : R2 := fun x y H Q => ∃ z p kvs v, x = .ref p ∧ y = .str z ∧ WDct K w p kvs ∧ kvs.lookup z = some v ∧ Q (.str v) H
section
variable {X : Cx}
theorem op_notinW : OpR X (compareOp .NotIn) (rNotInW X.K X.w) := by
  intro pins s σ H x y v u Q I rx ry h
  obtain ⟨z, p, kvs, rfl, rfl, ⟨es, n, hl, hk, low, pr⟩, q⟩ := h
  obtain ⟨t, rfl⟩ := (show ∃ t, v = Value.str z t from rx)
  obtain rfl : u = Value.ref p := ry
  have hm := PySem.W.mapOf_K (prog := X.prog) (w := X.w) I.kIn hl hk
  refine wpAny_notIn_of (strKind_is X.prog X.w z t) low hm ?_
  have e : (findBy PySem.Value.isStrOf es z).isSome = (kvs.lookup z).isSome := by
    have f := wd_find pr z
    rw [wd_findBy pr z]
    cases hq : kvs.lookup z with
    | none =>
      rw [hq] at f
      rw [f] <;> rfl
    | some y =>
      rw [hq] at f
      obtain ⟨t', f⟩ := f
      rw [f] <;> rfl
  have e' : (findBy Value.isStrOf es z).isSome = (kvs.lookup z).isSome := e
  rw [e']
  exact ⟨.bl (!(kvs.lookup z).isSome), H, I.tok _, rfl, q⟩
theorem ix_W : IxR X (rIxW X.K X.w) := by
  intro value slice pins s σ H x y v u Q I rx ry h hs
  obtain ⟨z, p, kvs, r, rfl, rfl, ⟨es, n, hl, hk, low, pr⟩, lk, q⟩ := h
  obtain rfl : v = Value.ref p := rx
  obtain ⟨t, rfl⟩ := ry
  have hm := PySem.W.mapOf_K (prog := X.prog) (w := X.w) I.kIn hl hk
  have f := wd_find pr z
  rw [lk] at f
  obtain ⟨t', f⟩ := f
  rw [← wd_findBy pr z] at f
  exact tail_any hm.typeIs slot_dict_getitem.lookup (wpAny_getItem_of (strKind_is X.prog X.w z t) hm f ⟨.str r, H, I.tok _, ⟨_, rfl⟩, q⟩) hs
end
end CM

namespace K09
open PySem L2
def top (i : Nat) : Stmt := PySem.Challenge.pw_stamprules_k09_short_texts.main.body.getD i (.Pass ⟨0, 0, 0, 0⟩)
abbrev s_BadStamp_init : Stmt := inClass (top 2) 0
abbrev s_BadStep_init : Stmt := inClass (top 3) 0
abbrev s_steps_of : Stmt := top 9
abbrev s_is_numeral : Stmt := top 10
abbrev s_law_cell : Stmt := top 12
abbrev s_law_row : Stmt := top 13
abbrev s_law_marks : Stmt := top 14
abbrev s_law_names : Stmt := top 15
abbrev s_law_steps : Stmt := top 16
abbrev s_law_one : Stmt := top 17
abbrev s_law_same : Stmt := top 18
abbrev s_law_refused : Stmt := top 19
abbrev s_law : Stmt := top 20
/-- what isinstance asks of an own class -/
structure IsI (K : PySem.W.Frag) (C : Addr) : Prop where
  ha : PySem.W.findIn K (.ref C) "__class__" = some (some (.builtin "object.__class__"))
  hm : PySem.W.mroIn K C (.type "object") = some true
structure IsG (K : PySem.W.Frag) : Prop where
  hn : PySem.W.specialIn K (.builtin "object.__class__") "__get__" = some (some (.builtin "getset_descriptor.__get__"))
  ht : PySem.W.takesIn K (.builtin "object.__class__") = some true
/-- what the top has written -/
structure Txt (w : World) (K : PySem.W.Frag) (mg : Str → Option Value) where
  isg : IsG K
  c_StampError : Addr
  g_StampError : mg "StampError" = some (.ref c_StampError)
  k_StampError : PySem.W.keepIn K (.ref c_StampError) = true
  c_BadStamp : Addr
  g_BadStamp : mg "BadStamp" = some (.ref c_BadStamp)
  k_BadStamp : PySem.W.keepIn K (.ref c_BadStamp) = true
  c_BadStep : Addr
  g_BadStep : mg "BadStep" = some (.ref c_BadStep)
  k_BadStep : PySem.W.keepIn K (.ref c_BadStep) = true
  oex_StampError : OexC K c_StampError
  excc_StampError : ExcC K c_StampError
  xfc_StampError : XfC K c_StampError
  exm_StampError_StampError : PySem.W.exmOne K (.ref c_StampError) (.ref c_StampError) = some true
  kit_StampError_StampError : PySem.W.kitOne K (.ref c_StampError) (.ref c_StampError) = some true
  exm_StampError_BadStamp : PySem.W.exmOne K (.ref c_StampError) (.ref c_BadStamp) = some false
  kit_StampError_BadStamp : PySem.W.kitOne K (.ref c_StampError) (.ref c_BadStamp) = some false
  exm_StampError_BadStep : PySem.W.exmOne K (.ref c_StampError) (.ref c_BadStep) = some false
  kit_StampError_BadStep : PySem.W.kitOne K (.ref c_StampError) (.ref c_BadStep) = some false
  kit_StampError_VE : PySem.W.kitOne K (.ref c_StampError) (.type "ValueError") = some true
  oex_BadStamp : OexC K c_BadStamp
  excc_BadStamp : ExcC K c_BadStamp
  xfc_BadStamp : XfC K c_BadStamp
  exm_BadStamp_StampError : PySem.W.exmOne K (.ref c_BadStamp) (.ref c_StampError) = some true
  kit_BadStamp_StampError : PySem.W.kitOne K (.ref c_BadStamp) (.ref c_StampError) = some true
  exm_BadStamp_BadStamp : PySem.W.exmOne K (.ref c_BadStamp) (.ref c_BadStamp) = some true
  kit_BadStamp_BadStamp : PySem.W.kitOne K (.ref c_BadStamp) (.ref c_BadStamp) = some true
  exm_BadStamp_BadStep : PySem.W.exmOne K (.ref c_BadStamp) (.ref c_BadStep) = some false
  kit_BadStamp_BadStep : PySem.W.kitOne K (.ref c_BadStamp) (.ref c_BadStep) = some false
  kit_BadStamp_VE : PySem.W.kitOne K (.ref c_BadStamp) (.type "ValueError") = some true
  na_BadStamp_given : NoAttr K c_BadStamp "given"
  oex_BadStep : OexC K c_BadStep
  excc_BadStep : ExcC K c_BadStep
  xfc_BadStep : XfC K c_BadStep
  exm_BadStep_StampError : PySem.W.exmOne K (.ref c_BadStep) (.ref c_StampError) = some true
  kit_BadStep_StampError : PySem.W.kitOne K (.ref c_BadStep) (.ref c_StampError) = some true
  exm_BadStep_BadStamp : PySem.W.exmOne K (.ref c_BadStep) (.ref c_BadStamp) = some false
  kit_BadStep_BadStamp : PySem.W.kitOne K (.ref c_BadStep) (.ref c_BadStamp) = some false
  exm_BadStep_BadStep : PySem.W.exmOne K (.ref c_BadStep) (.ref c_BadStep) = some true
  kit_BadStep_BadStep : PySem.W.kitOne K (.ref c_BadStep) (.ref c_BadStep) = some true
  kit_BadStep_VE : PySem.W.kitOne K (.ref c_BadStep) (.type "ValueError") = some true
  na_BadStep_index : NoAttr K c_BadStep "index"
  f_BadStamp_init : Addr
  d_BadStamp_init : FuncData
  cc_BadStamp_init : Addr
  cdr_BadStamp_init : Addr
  S_BadStamp_init : SI.SupT PySem.Challenge.rw_stamprules_k09_short_texts.prog K mg c_BadStamp f_BadStamp_init cdr_BadStamp_init cc_BadStamp_init ⟨"__init__", "BadStamp.__init__", defArgs s_BadStamp_init, defBody s_BadStamp_init, defScope s_BadStamp_init, [(("__class__" : Str), cc_BadStamp_init)], cdr_BadStamp_init⟩ d_BadStamp_init
  i_BadStamp_init : PySem.W.findIn K (.ref c_BadStamp) "__init__" = some (some (.ref f_BadStamp_init))
  t_BadStamp_init : PySem.W.typeIn K (.ref f_BadStamp_init) = some (.type "function")
  f_BadStep_init : Addr
  d_BadStep_init : FuncData
  cc_BadStep_init : Addr
  cdr_BadStep_init : Addr
  S_BadStep_init : SI.SupT PySem.Challenge.rw_stamprules_k09_short_texts.prog K mg c_BadStep f_BadStep_init cdr_BadStep_init cc_BadStep_init ⟨"__init__", "BadStep.__init__", defArgs s_BadStep_init, defBody s_BadStep_init, defScope s_BadStep_init, [(("__class__" : Str), cc_BadStep_init)], cdr_BadStep_init⟩ d_BadStep_init
  i_BadStep_init : PySem.W.findIn K (.ref c_BadStep) "__init__" = some (some (.ref f_BadStep_init))
  t_BadStep_init : PySem.W.typeIn K (.ref f_BadStep_init) = some (.type "function")
  f_steps_of : Addr
  d_steps_of : FuncData
  F_steps_of : FunD K "steps_of" "steps_of" (defArgs s_steps_of) (defBody s_steps_of) (defScope s_steps_of) [.str "x"] [] f_steps_of d_steps_of
  g_steps_of : mg "steps_of" = some (.ref f_steps_of)
  f_is_numeral : Addr
  d_is_numeral : FuncData
  F_is_numeral : Fun K "is_numeral" "is_numeral" s_is_numeral f_is_numeral d_is_numeral
  g_is_numeral : mg "is_numeral" = some (.ref f_is_numeral)
  f_law_cell : Addr
  d_law_cell : FuncData
  F_law_cell : Fun K "_law_cell" "_law_cell" s_law_cell f_law_cell d_law_cell
  g_law_cell : mg "_law_cell" = some (.ref f_law_cell)
  f_law_row : Addr
  d_law_row : FuncData
  F_law_row : Fun K "_law_row" "_law_row" s_law_row f_law_row d_law_row
  g_law_row : mg "_law_row" = some (.ref f_law_row)
  f_law_marks : Addr
  d_law_marks : FuncData
  F_law_marks : Fun K "_law_marks" "_law_marks" s_law_marks f_law_marks d_law_marks
  g_law_marks : mg "_law_marks" = some (.ref f_law_marks)
  f_law_names : Addr
  d_law_names : FuncData
  F_law_names : Fun K "_law_names" "_law_names" s_law_names f_law_names d_law_names
  g_law_names : mg "_law_names" = some (.ref f_law_names)
  f_law_steps : Addr
  d_law_steps : FuncData
  F_law_steps : Fun K "_law_steps" "_law_steps" s_law_steps f_law_steps d_law_steps
  g_law_steps : mg "_law_steps" = some (.ref f_law_steps)
  f_law_one : Addr
  d_law_one : FuncData
  F_law_one : Fun K "_law_one" "_law_one" s_law_one f_law_one d_law_one
  g_law_one : mg "_law_one" = some (.ref f_law_one)
  f_law_same : Addr
  d_law_same : FuncData
  F_law_same : Fun K "_law_same" "_law_same" s_law_same f_law_same d_law_same
  g_law_same : mg "_law_same" = some (.ref f_law_same)
  f_law_refused : Addr
  d_law_refused : FuncData
  F_law_refused : Fun K "_law_refused" "_law_refused" s_law_refused f_law_refused d_law_refused
  g_law_refused : mg "_law_refused" = some (.ref f_law_refused)
  f_law : Addr
  d_law : FuncData
  F_law : Fun K "law" "law" s_law f_law d_law
  g_law : mg "law" = some (.ref f_law)
  g_GREATEST : ∃ t, mg "GREATEST" = some (.int 1000000000000000000000000000000 t)
  g_DIGITS : ∃ t, mg "DIGITS" = some (.str "0123456789" t)
  g_MOST_DIGITS : ∃ t, mg "MOST_DIGITS" = some (.int 31 t)
  o_WORDS : Addr
  g_WORDS : mg "WORDS" = some (.ref o_WORDS)
  q_WORDS : ∃ es ep, K.lookup o_WORDS = some ⟨.type "dict", none, .dict es ep, #[]⟩ ∧ PySem.W.KeysLit w.params es.toList ∧ (o_WORDS == sysModules) = false ∧ es.toList.map (fun e => (e.key, e.val)) = es.toList.map (fun e => (e.key, e.val)) ∧ ∃ k0 k1 k2 k3 v0 v1 v2 v3, es.toList.map (fun e => (e.key, e.val)) = [(.str "r" k0, .str "read" v0), (.str "w" k1, .str "write" v1), (.str "c" k2, .str "commit" v2), (.str "a" k3, .str "abort" v3)]
  n_ValueError : mg "ValueError" = none
  n_all : mg "all" = none
  n_bool : mg "bool" = none
  n_enumerate : mg "enumerate" = none
  n_int : mg "int" = none
  n_isinstance : mg "isinstance" = none
  n_len : mg "len" = none
  n_list : mg "list" = none
  n_range : mg "range" = none
  n_str : mg "str" = none
  n_super : mg "super" = none
  n_tuple : mg "tuple" = none
theorem sc_BadStamp_init : NdefX.NScope ["self", "given", "__class__"] ["self", "given"] SI.sfr (defScope s_BadStamp_init) := NdefX.nscope_by (by decide +kernel)
theorem sc_BadStep_init : NdefX.NScope ["self", "index", "__class__"] ["self", "index"] SI.sfr (defScope s_BadStep_init) := NdefX.nscope_by (by decide +kernel)
theorem sc_steps_of : FnScope ["text", "item", "run", "index", "word", "kind", "stamp"] ["text", "item"] (defScope s_steps_of) := ⟨rfl, rfl, rfl, by decide +kernel, rfl, by decide +kernel, by decide +kernel⟩
theorem sc_is_numeral : FnScope ["digits", "digit"] ["digits"] (defScope s_is_numeral) := ⟨rfl, rfl, rfl, by decide +kernel, rfl, by decide +kernel, by decide +kernel⟩
theorem sc_law_cell : FnScope ["_law_script", "_law_k"] ["_law_script", "_law_k"] (defScope s_law_cell) := ⟨rfl, rfl, rfl, by decide +kernel, rfl, by decide +kernel, by decide +kernel⟩
theorem sc_law_row : FnScope ["_law_cell_here", "_law_count", "_law_base", "_law_row_here", "_law_rest", "_law_mixed", "_law_k"] ["_law_cell_here", "_law_count", "_law_base"] (defScope s_law_row) := ⟨rfl, rfl, rfl, by decide +kernel, rfl, by decide +kernel, by decide +kernel⟩
theorem sc_law_marks : FnScope ["_law_cell_here", "_law_many", "_law_gaps", "_law_marks_here", "_law_mark", "_law_draw"] ["_law_cell_here", "_law_many"] (defScope s_law_marks) := ⟨rfl, rfl, rfl, by decide +kernel, rfl, by decide +kernel, by decide +kernel⟩
theorem sc_law_names : FnScope ["_law_cell_here", "_law_signs", "_law_draws", "_law_k", "_law_first"] ["_law_cell_here"] (defScope s_law_names) := ⟨rfl, rfl, rfl, by decide +kernel, rfl, by decide +kernel, by decide +kernel⟩
theorem sc_law_steps : FnScope ["_law_draws", "_law_marks_here", "_law_names_here", "_law_kinds", "_law_run", "_law_draw", "_law_kind", "_law_mark"] ["_law_draws", "_law_marks_here", "_law_names_here"] (defScope s_law_steps) := ⟨rfl, rfl, rfl, by decide +kernel, rfl, by decide +kernel, by decide +kernel⟩
theorem sc_law_one : FnScope ["_law_cell_here", "_law_k", "_law_base"] ["_law_cell_here", "_law_k", "_law_base"] (defScope s_law_one) := ⟨rfl, rfl, rfl, by decide +kernel, rfl, by decide +kernel, by decide +kernel⟩
theorem sc_law_same : FnScope ["_law_actual", "_law_run", "_law_k"] ["_law_actual", "_law_run"] (defScope s_law_same) := ⟨rfl, rfl, rfl, by decide +kernel, rfl, by decide +kernel, by decide +kernel⟩
theorem sc_law_refused : FnScope ["_law_text", "_law_index", "e"] ["_law_text", "_law_index"] (defScope s_law_refused) := ⟨rfl, rfl, rfl, by decide +kernel, rfl, by decide +kernel, by decide +kernel⟩
theorem sc_law : FnScope ["_law_script", "_law_marks_here", "_law_name", "_law_draws", "_law_k", "_law_run", "_law_step", "_law_words", "_law_plain", "_law_text", "_law_bad", "_law_spoilt", "_law_at", "_law_later"] ["_law_script"] (defScope s_law) := ⟨rfl, rfl, rfl, by decide +kernel, rfl, by decide +kernel, by decide +kernel⟩
section
variable {w : World} {K : PySem.W.Frag} {mg : Str → Option Value} (T : Txt w K mg)
include T
theorem b_BadStamp_init : Binds K T.d_BadStamp_init ["self", "given"] [] := by
  obtain ⟨_, _, _, _, _, _, _, _, e, _⟩ := T.S_BadStamp_init.fn
  rw [e]
  exact .all fun us hl => match us, hl with | [_, _], _ => rfl
theorem b_BadStep_init : Binds K T.d_BadStep_init ["self", "index"] [] := by
  obtain ⟨_, _, _, _, _, _, _, _, e, _⟩ := T.S_BadStep_init.fn
  rw [e]
  exact .all fun us hl => match us, hl with | [_, _], _ => rfl
theorem b0_steps_of : ∃ ds, Vals [] ds ∧ Binds K T.d_steps_of ["text", "item"] ds := T.F_steps_of.binds1 2 1 (by simp) rfl fun _ _ _ _ _ _ _ us its hu hi => match us, hu, its, hi with | [_, _], _, [_], _ => ⟨_, rfl, rfl⟩
theorem b1_steps_of : ∃ ds, Vals [.str "x"] ds ∧ Binds K T.d_steps_of ["text", "item"] ds := T.F_steps_of.binds1 1 0 (by simp) rfl fun _ _ _ _ _ _ _ us its hu hi => match us, hu, its, hi with | [_], _, [_], _ => ⟨_, rfl, rfl⟩
theorem b_is_numeral : Binds K T.d_is_numeral ["digits"] [] := T.F_is_numeral.binds (ps := ["digits"]) fun _ _ _ _ _ _ us hl => match us, hl with | [_], _ => rfl
theorem b_law_cell : Binds K T.d_law_cell ["_law_script", "_law_k"] [] := T.F_law_cell.binds (ps := ["_law_script", "_law_k"]) fun _ _ _ _ _ _ us hl => match us, hl with | [_, _], _ => rfl
theorem b_law_row : Binds K T.d_law_row ["_law_cell_here", "_law_count", "_law_base"] [] := T.F_law_row.binds (ps := ["_law_cell_here", "_law_count", "_law_base"]) fun _ _ _ _ _ _ us hl => match us, hl with | [_, _, _], _ => rfl
theorem b_law_marks : Binds K T.d_law_marks ["_law_cell_here", "_law_many"] [] := T.F_law_marks.binds (ps := ["_law_cell_here", "_law_many"]) fun _ _ _ _ _ _ us hl => match us, hl with | [_, _], _ => rfl
theorem b_law_names : Binds K T.d_law_names ["_law_cell_here"] [] := T.F_law_names.binds (ps := ["_law_cell_here"]) fun _ _ _ _ _ _ us hl => match us, hl with | [_], _ => rfl
theorem b_law_steps : Binds K T.d_law_steps ["_law_draws", "_law_marks_here", "_law_names_here"] [] := T.F_law_steps.binds (ps := ["_law_draws", "_law_marks_here", "_law_names_here"]) fun _ _ _ _ _ _ us hl => match us, hl with | [_, _, _], _ => rfl
theorem b_law_one : Binds K T.d_law_one ["_law_cell_here", "_law_k", "_law_base"] [] := T.F_law_one.binds (ps := ["_law_cell_here", "_law_k", "_law_base"]) fun _ _ _ _ _ _ us hl => match us, hl with | [_, _, _], _ => rfl
theorem b_law_same : Binds K T.d_law_same ["_law_actual", "_law_run"] [] := T.F_law_same.binds (ps := ["_law_actual", "_law_run"]) fun _ _ _ _ _ _ us hl => match us, hl with | [_, _], _ => rfl
theorem b_law_refused : Binds K T.d_law_refused ["_law_text", "_law_index"] [] := T.F_law_refused.binds (ps := ["_law_text", "_law_index"]) fun _ _ _ _ _ _ us hl => match us, hl with | [_, _], _ => rfl
theorem b_law : Binds K T.d_law ["_law_script"] [] := T.F_law.binds (ps := ["_law_script"]) fun _ _ _ _ _ _ us hl => match us, hl with | [_], _ => rfl
end
theorem all_mk {w : World} {K : PySem.W.Frag} {h : Heap} {mg : Str → Option Value} {fa c_StampError c_BadStamp c_BadStep f_BadStamp_init f_BadStep_init f_steps_of f_is_numeral f_law_cell f_law_row f_law_marks f_law_names f_law_steps f_law_one f_law_same f_law_refused f_law o_WORDS : Addr} (X : K.In h) (G : h.Ns mainGlobals mg) (hfa : mg "law" = some (.ref fa))
    {nm_StampError q_StampError : Str} {N_StampError : Addr} {bs_StampError : List Value} {sn_StampError : List Str} {sub_StampError : List Value} {ab_StampError : Bool} {col_StampError : Option Bool} {dd_StampError : Option Addr} {m0_StampError m1_StampError m2_StampError m3_StampError m5_StampError : Option Value}
    {nm_BadStamp q_BadStamp : Str} {N_BadStamp : Addr} {bs_BadStamp : List Value} {sn_BadStamp : List Str} {sub_BadStamp : List Value} {ab_BadStamp : Bool} {col_BadStamp : Option Bool} {dd_BadStamp : Option Addr} {m0_BadStamp m1_BadStamp m2_BadStamp m3_BadStamp m5_BadStamp : Option Value}
    {nm_BadStep q_BadStep : Str} {N_BadStep : Addr} {bs_BadStep : List Value} {sn_BadStep : List Str} {sub_BadStep : List Value} {ab_BadStep : Bool} {col_BadStep : Option Bool} {dd_BadStep : Option Addr} {m0_BadStep m1_BadStep m2_BadStep m3_BadStep m5_BadStep : Option Value}
    {od_BadStamp_init an_BadStamp_init : Option Addr} {sl_BadStamp_init : Array (Option Value)} {oc_BadStamp_init kV_BadStamp_init dc_BadStamp_init pm_BadStamp_init ct_BadStamp_init : Value}
    {cc_BadStamp_init cdr_BadStamp_init : Addr} {ccl_BadStamp_init cdo_BadStamp_init : Value} {cdd_BadStamp_init cod_BadStamp_init : Option Addr} {ccs_BadStamp_init cos_BadStamp_init : Array (Option Value)} {cvs_BadStamp_init : Array Value} {cfile_BadStamp_init : Str} {ctk_BadStamp_init : Tok}
    {od_BadStep_init an_BadStep_init : Option Addr} {sl_BadStep_init : Array (Option Value)} {oc_BadStep_init kV_BadStep_init dc_BadStep_init pm_BadStep_init ct_BadStep_init : Value}
    {cc_BadStep_init cdr_BadStep_init : Addr} {ccl_BadStep_init cdo_BadStep_init : Value} {cdd_BadStep_init cod_BadStep_init : Option Addr} {ccs_BadStep_init cos_BadStep_init : Array (Option Value)} {cvs_BadStep_init : Array Value} {cfile_BadStep_init : Str} {ctk_BadStep_init : Tok}
    {od_steps_of an_steps_of : Option Addr} {sl_steps_of : Array (Option Value)} {oc_steps_of kV_steps_of dc_steps_of pm_steps_of ct_steps_of : Value}
    {cd_steps_of : Value}
    {T_steps_of : Addr} {Tn_steps_of : Nat}
    {tk0_steps_of : Tok}
    {Tc_steps_of : Value} {Td_steps_of : Option Addr} {Ts_steps_of : Array (Option Value)}
    {od_is_numeral an_is_numeral : Option Addr} {sl_is_numeral : Array (Option Value)} {oc_is_numeral kV_is_numeral dc_is_numeral pm_is_numeral ct_is_numeral : Value}
    {cd_is_numeral : Value}
    {od_law_cell an_law_cell : Option Addr} {sl_law_cell : Array (Option Value)} {oc_law_cell kV_law_cell dc_law_cell pm_law_cell ct_law_cell : Value}
    {cd_law_cell : Value}
    {od_law_row an_law_row : Option Addr} {sl_law_row : Array (Option Value)} {oc_law_row kV_law_row dc_law_row pm_law_row ct_law_row : Value}
    {cd_law_row : Value}
    {od_law_marks an_law_marks : Option Addr} {sl_law_marks : Array (Option Value)} {oc_law_marks kV_law_marks dc_law_marks pm_law_marks ct_law_marks : Value}
    {cd_law_marks : Value}
    {od_law_names an_law_names : Option Addr} {sl_law_names : Array (Option Value)} {oc_law_names kV_law_names dc_law_names pm_law_names ct_law_names : Value}
    {cd_law_names : Value}
    {od_law_steps an_law_steps : Option Addr} {sl_law_steps : Array (Option Value)} {oc_law_steps kV_law_steps dc_law_steps pm_law_steps ct_law_steps : Value}
    {cd_law_steps : Value}
    {od_law_one an_law_one : Option Addr} {sl_law_one : Array (Option Value)} {oc_law_one kV_law_one dc_law_one pm_law_one ct_law_one : Value}
    {cd_law_one : Value}
    {od_law_same an_law_same : Option Addr} {sl_law_same : Array (Option Value)} {oc_law_same kV_law_same dc_law_same pm_law_same ct_law_same : Value}
    {cd_law_same : Value}
    {od_law_refused an_law_refused : Option Addr} {sl_law_refused : Array (Option Value)} {oc_law_refused kV_law_refused dc_law_refused pm_law_refused ct_law_refused : Value}
    {cd_law_refused : Value}
    {od_law an_law : Option Addr} {sl_law : Array (Option Value)} {oc_law kV_law dc_law pm_law ct_law : Value}
    {cd_law : Value}
    {tk_GREATEST : Tok}
    {tk_DIGITS : Tok}
    {tk_MOST_DIGITS : Tok}
    {h0_WORDS : Int} {tk0_WORDS tv0_WORDS : Tok}
    {h1_WORDS : Int} {tk1_WORDS tv1_WORDS : Tok}
    {h2_WORDS : Int} {tk2_WORDS tv2_WORDS : Tok}
    {h3_WORDS : Int} {tk3_WORDS tv3_WORDS : Tok}
    {ep_WORDS : Nat}
    (z_hn : PySem.W.specialIn K (.builtin "object.__class__") "__get__" = some (some (.builtin "getset_descriptor.__get__")))
    (z_ht : PySem.W.takesIn K (.builtin "object.__class__") = some true)
    (gc_StampError : PySem.W.nsIn K mainGlobals "StampError" = some (some (.ref c_StampError)))
    (kc_StampError : PySem.W.keepIn K (.ref c_StampError) = true)
    (gc_BadStamp : PySem.W.nsIn K mainGlobals "BadStamp" = some (some (.ref c_BadStamp)))
    (kc_BadStamp : PySem.W.keepIn K (.ref c_BadStamp) = true)
    (gc_BadStep : PySem.W.nsIn K mainGlobals "BadStep" = some (some (.ref c_BadStep)))
    (kc_BadStep : PySem.W.keepIn K (.ref c_BadStep) = true)
    (xl_StampError : K.lookup c_StampError = some (excClassObj nm_StampError q_StampError c_StampError N_StampError bs_StampError [.type "ValueError", .type "Exception", .type "BaseException", .type "object"] true sn_StampError sub_StampError ab_StampError col_StampError dd_StampError m0_StampError m1_StampError m2_StampError m3_StampError m5_StampError "ValueError.__new__"))
    (sa_StampError : PySem.W.findIn K (.ref c_StampError) "__setattr__" = some (some (.builtin "object.__setattr__")))
    (xb_StampError : PySem.W.subIn K (.ref c_StampError) (.type "BaseException") = some true)
    (xt_StampError : PySem.W.typeIn K (.ref c_StampError) = some (.type "type"))
    (ga_StampError : PySem.W.findIn K (.ref c_StampError) "__getattribute__" = some (some (.builtin "BaseException.__getattribute__")))
    (gg_StampError : PySem.W.findIn K (.ref c_StampError) "__getattr__" = some none)
    (hd_StampError : PySem.W.hasDictIn K c_StampError = true)
    (ha_StampError : PySem.W.findIn K (.ref c_StampError) "__class__" = some (some (.builtin "object.__class__")))
    (hm_StampError : PySem.W.mroIn K c_StampError (.type "object") = some true)
    (sb_StampError_StampError : PySem.W.subIn K (.ref c_StampError) (.ref c_StampError) = some true)
    (ko_StampError_StampError : PySem.W.kitOne K (.ref c_StampError) (.ref c_StampError) = some true)
    (sb_StampError_BadStamp : PySem.W.subIn K (.ref c_StampError) (.ref c_BadStamp) = some false)
    (ko_StampError_BadStamp : PySem.W.kitOne K (.ref c_StampError) (.ref c_BadStamp) = some false)
    (sb_StampError_BadStep : PySem.W.subIn K (.ref c_StampError) (.ref c_BadStep) = some false)
    (ko_StampError_BadStep : PySem.W.kitOne K (.ref c_StampError) (.ref c_BadStep) = some false)
    (kv_StampError : PySem.W.kitOne K (.ref c_StampError) (.type "ValueError") = some true)
    (xl_BadStamp : K.lookup c_BadStamp = some (excClassObj nm_BadStamp q_BadStamp c_BadStamp N_BadStamp bs_BadStamp [.ref c_StampError, .type "ValueError", .type "Exception", .type "BaseException", .type "object"] true sn_BadStamp sub_BadStamp ab_BadStamp col_BadStamp dd_BadStamp m0_BadStamp m1_BadStamp m2_BadStamp m3_BadStamp m5_BadStamp "ValueError.__new__"))
    (sa_BadStamp : PySem.W.findIn K (.ref c_BadStamp) "__setattr__" = some (some (.builtin "object.__setattr__")))
    (xb_BadStamp : PySem.W.subIn K (.ref c_BadStamp) (.type "BaseException") = some true)
    (xt_BadStamp : PySem.W.typeIn K (.ref c_BadStamp) = some (.type "type"))
    (ga_BadStamp : PySem.W.findIn K (.ref c_BadStamp) "__getattribute__" = some (some (.builtin "BaseException.__getattribute__")))
    (gg_BadStamp : PySem.W.findIn K (.ref c_BadStamp) "__getattr__" = some none)
    (hd_BadStamp : PySem.W.hasDictIn K c_BadStamp = true)
    (ha_BadStamp : PySem.W.findIn K (.ref c_BadStamp) "__class__" = some (some (.builtin "object.__class__")))
    (hm_BadStamp : PySem.W.mroIn K c_BadStamp (.type "object") = some true)
    (sb_BadStamp_StampError : PySem.W.subIn K (.ref c_BadStamp) (.ref c_StampError) = some true)
    (ko_BadStamp_StampError : PySem.W.kitOne K (.ref c_BadStamp) (.ref c_StampError) = some true)
    (sb_BadStamp_BadStamp : PySem.W.subIn K (.ref c_BadStamp) (.ref c_BadStamp) = some true)
    (ko_BadStamp_BadStamp : PySem.W.kitOne K (.ref c_BadStamp) (.ref c_BadStamp) = some true)
    (sb_BadStamp_BadStep : PySem.W.subIn K (.ref c_BadStamp) (.ref c_BadStep) = some false)
    (ko_BadStamp_BadStep : PySem.W.kitOne K (.ref c_BadStamp) (.ref c_BadStep) = some false)
    (kv_BadStamp : PySem.W.kitOne K (.ref c_BadStamp) (.type "ValueError") = some true)
    (na_BadStamp_given : PySem.W.findIn K (.ref c_BadStamp) "given" = some none)
    (xl_BadStep : K.lookup c_BadStep = some (excClassObj nm_BadStep q_BadStep c_BadStep N_BadStep bs_BadStep [.ref c_StampError, .type "ValueError", .type "Exception", .type "BaseException", .type "object"] true sn_BadStep sub_BadStep ab_BadStep col_BadStep dd_BadStep m0_BadStep m1_BadStep m2_BadStep m3_BadStep m5_BadStep "ValueError.__new__"))
    (sa_BadStep : PySem.W.findIn K (.ref c_BadStep) "__setattr__" = some (some (.builtin "object.__setattr__")))
    (xb_BadStep : PySem.W.subIn K (.ref c_BadStep) (.type "BaseException") = some true)
    (xt_BadStep : PySem.W.typeIn K (.ref c_BadStep) = some (.type "type"))
    (ga_BadStep : PySem.W.findIn K (.ref c_BadStep) "__getattribute__" = some (some (.builtin "BaseException.__getattribute__")))
    (gg_BadStep : PySem.W.findIn K (.ref c_BadStep) "__getattr__" = some none)
    (hd_BadStep : PySem.W.hasDictIn K c_BadStep = true)
    (ha_BadStep : PySem.W.findIn K (.ref c_BadStep) "__class__" = some (some (.builtin "object.__class__")))
    (hm_BadStep : PySem.W.mroIn K c_BadStep (.type "object") = some true)
    (sb_BadStep_StampError : PySem.W.subIn K (.ref c_BadStep) (.ref c_StampError) = some true)
    (ko_BadStep_StampError : PySem.W.kitOne K (.ref c_BadStep) (.ref c_StampError) = some true)
    (sb_BadStep_BadStamp : PySem.W.subIn K (.ref c_BadStep) (.ref c_BadStamp) = some false)
    (ko_BadStep_BadStamp : PySem.W.kitOne K (.ref c_BadStep) (.ref c_BadStamp) = some false)
    (sb_BadStep_BadStep : PySem.W.subIn K (.ref c_BadStep) (.ref c_BadStep) = some true)
    (ko_BadStep_BadStep : PySem.W.kitOne K (.ref c_BadStep) (.ref c_BadStep) = some true)
    (kv_BadStep : PySem.W.kitOne K (.ref c_BadStep) (.type "ValueError") = some true)
    (na_BadStep_index : PySem.W.findIn K (.ref c_BadStep) "index" = some none)
    (a_BadStamp_init : PySem.W.findIn K (.ref c_BadStamp) "__init__" = some (some (.ref f_BadStamp_init)))
    (l_BadStamp_init : K.lookup f_BadStamp_init = some ⟨oc_BadStamp_init, od_BadStamp_init, .func (PySem.W.fnX "__init__" "BadStamp.__init__" (defArgs s_BadStamp_init) (defBody s_BadStamp_init) (defScope s_BadStamp_init) [(("__class__" : Str), cc_BadStamp_init)] .none kV_BadStamp_init dc_BadStamp_init pm_BadStamp_init an_BadStamp_init (.ref cdr_BadStamp_init) ct_BadStamp_init), sl_BadStamp_init⟩)
    (c_BadStamp_init : PySem.W.codeIn K (.ref cdr_BadStamp_init) "BadStamp.__init__" = true)
    (cl_BadStamp_init : K.lookup cc_BadStamp_init = some ⟨ccl_BadStamp_init, cdd_BadStamp_init, .cell (some (.ref c_BadStamp)), ccs_BadStamp_init⟩)
    (cv_BadStamp_init : K.lookup cdr_BadStamp_init = some ⟨cdo_BadStamp_init, cod_BadStamp_init, .fields cvs_BadStamp_init, cos_BadStamp_init⟩)
    (cw_BadStamp_init : cvs_BadStamp_init[2]? = some (.str cfile_BadStamp_init ctk_BadStamp_init))
    (cx_BadStamp_init : ((PySem.Challenge.rw_stamprules_k09_short_texts.prog.main.file : Str) == cfile_BadStamp_init) = true)
    (tp_BadStamp_init : (PySem.Challenge.rw_stamprules_k09_short_texts.prog.main.scope.names.lookup ("super" : Str)).isSome = false)
    (su_BadStamp_init : PySem.W.ks_superIn K c_BadStamp c_BadStamp "__init__" = some (some (.builtin "ValueError.__init__")))
    (ve_BadStamp_init : PySem.W.subIn K (.ref c_BadStamp) (.type "ValueError") = some true)
    (md_BadStamp_init : PySem.W.mroIn K c_BadStamp (.ref c_BadStamp) = some true)
    (ti_BadStamp_init : PySem.W.typeIn K (.ref f_BadStamp_init) = some (.type "function"))
    (z_th : PySem.W.nsIn K cStatics "thirdparty.any" = some none)
    (z_su : PySem.W.nsIn K mainGlobals "super" = some none)
    (a_BadStep_init : PySem.W.findIn K (.ref c_BadStep) "__init__" = some (some (.ref f_BadStep_init)))
    (l_BadStep_init : K.lookup f_BadStep_init = some ⟨oc_BadStep_init, od_BadStep_init, .func (PySem.W.fnX "__init__" "BadStep.__init__" (defArgs s_BadStep_init) (defBody s_BadStep_init) (defScope s_BadStep_init) [(("__class__" : Str), cc_BadStep_init)] .none kV_BadStep_init dc_BadStep_init pm_BadStep_init an_BadStep_init (.ref cdr_BadStep_init) ct_BadStep_init), sl_BadStep_init⟩)
    (c_BadStep_init : PySem.W.codeIn K (.ref cdr_BadStep_init) "BadStep.__init__" = true)
    (cl_BadStep_init : K.lookup cc_BadStep_init = some ⟨ccl_BadStep_init, cdd_BadStep_init, .cell (some (.ref c_BadStep)), ccs_BadStep_init⟩)
    (cv_BadStep_init : K.lookup cdr_BadStep_init = some ⟨cdo_BadStep_init, cod_BadStep_init, .fields cvs_BadStep_init, cos_BadStep_init⟩)
    (cw_BadStep_init : cvs_BadStep_init[2]? = some (.str cfile_BadStep_init ctk_BadStep_init))
    (cx_BadStep_init : ((PySem.Challenge.rw_stamprules_k09_short_texts.prog.main.file : Str) == cfile_BadStep_init) = true)
    (tp_BadStep_init : (PySem.Challenge.rw_stamprules_k09_short_texts.prog.main.scope.names.lookup ("super" : Str)).isSome = false)
    (su_BadStep_init : PySem.W.ks_superIn K c_BadStep c_BadStep "__init__" = some (some (.builtin "ValueError.__init__")))
    (ve_BadStep_init : PySem.W.subIn K (.ref c_BadStep) (.type "ValueError") = some true)
    (md_BadStep_init : PySem.W.mroIn K c_BadStep (.ref c_BadStep) = some true)
    (ti_BadStep_init : PySem.W.typeIn K (.ref f_BadStep_init) = some (.type "function"))
    (a_steps_of : PySem.W.nsIn K mainGlobals "steps_of" = some (some (.ref f_steps_of)))
    (l_steps_of : K.lookup f_steps_of = some ⟨oc_steps_of, od_steps_of, .func (PySem.W.fnOf "steps_of" "steps_of" (defArgs s_steps_of) (defBody s_steps_of) (defScope s_steps_of) (.ref T_steps_of) kV_steps_of dc_steps_of pm_steps_of an_steps_of cd_steps_of ct_steps_of), sl_steps_of⟩)
    (c_steps_of : PySem.W.codeIn K cd_steps_of "steps_of" = true)
    (k_steps_of : PySem.W.keepIn K (.ref f_steps_of) = true)
    (T1_steps_of : K.lookup T_steps_of = some ⟨Tc_steps_of, Td_steps_of, .seq #[.str "x" tk0_steps_of] Tn_steps_of, Ts_steps_of⟩)
    (a_is_numeral : PySem.W.nsIn K mainGlobals "is_numeral" = some (some (.ref f_is_numeral)))
    (l_is_numeral : K.lookup f_is_numeral = some ⟨oc_is_numeral, od_is_numeral, .func (PySem.W.fnOf "is_numeral" "is_numeral" (defArgs s_is_numeral) (defBody s_is_numeral) (defScope s_is_numeral) .none kV_is_numeral dc_is_numeral pm_is_numeral an_is_numeral cd_is_numeral ct_is_numeral), sl_is_numeral⟩)
    (c_is_numeral : PySem.W.codeIn K cd_is_numeral "is_numeral" = true)
    (k_is_numeral : PySem.W.keepIn K (.ref f_is_numeral) = true)
    (a_law_cell : PySem.W.nsIn K mainGlobals "_law_cell" = some (some (.ref f_law_cell)))
    (l_law_cell : K.lookup f_law_cell = some ⟨oc_law_cell, od_law_cell, .func (PySem.W.fnOf "_law_cell" "_law_cell" (defArgs s_law_cell) (defBody s_law_cell) (defScope s_law_cell) .none kV_law_cell dc_law_cell pm_law_cell an_law_cell cd_law_cell ct_law_cell), sl_law_cell⟩)
    (c_law_cell : PySem.W.codeIn K cd_law_cell "_law_cell" = true)
    (k_law_cell : PySem.W.keepIn K (.ref f_law_cell) = true)
    (a_law_row : PySem.W.nsIn K mainGlobals "_law_row" = some (some (.ref f_law_row)))
    (l_law_row : K.lookup f_law_row = some ⟨oc_law_row, od_law_row, .func (PySem.W.fnOf "_law_row" "_law_row" (defArgs s_law_row) (defBody s_law_row) (defScope s_law_row) .none kV_law_row dc_law_row pm_law_row an_law_row cd_law_row ct_law_row), sl_law_row⟩)
    (c_law_row : PySem.W.codeIn K cd_law_row "_law_row" = true)
    (k_law_row : PySem.W.keepIn K (.ref f_law_row) = true)
    (a_law_marks : PySem.W.nsIn K mainGlobals "_law_marks" = some (some (.ref f_law_marks)))
    (l_law_marks : K.lookup f_law_marks = some ⟨oc_law_marks, od_law_marks, .func (PySem.W.fnOf "_law_marks" "_law_marks" (defArgs s_law_marks) (defBody s_law_marks) (defScope s_law_marks) .none kV_law_marks dc_law_marks pm_law_marks an_law_marks cd_law_marks ct_law_marks), sl_law_marks⟩)
    (c_law_marks : PySem.W.codeIn K cd_law_marks "_law_marks" = true)
    (k_law_marks : PySem.W.keepIn K (.ref f_law_marks) = true)
    (a_law_names : PySem.W.nsIn K mainGlobals "_law_names" = some (some (.ref f_law_names)))
    (l_law_names : K.lookup f_law_names = some ⟨oc_law_names, od_law_names, .func (PySem.W.fnOf "_law_names" "_law_names" (defArgs s_law_names) (defBody s_law_names) (defScope s_law_names) .none kV_law_names dc_law_names pm_law_names an_law_names cd_law_names ct_law_names), sl_law_names⟩)
    (c_law_names : PySem.W.codeIn K cd_law_names "_law_names" = true)
    (k_law_names : PySem.W.keepIn K (.ref f_law_names) = true)
    (a_law_steps : PySem.W.nsIn K mainGlobals "_law_steps" = some (some (.ref f_law_steps)))
    (l_law_steps : K.lookup f_law_steps = some ⟨oc_law_steps, od_law_steps, .func (PySem.W.fnOf "_law_steps" "_law_steps" (defArgs s_law_steps) (defBody s_law_steps) (defScope s_law_steps) .none kV_law_steps dc_law_steps pm_law_steps an_law_steps cd_law_steps ct_law_steps), sl_law_steps⟩)
    (c_law_steps : PySem.W.codeIn K cd_law_steps "_law_steps" = true)
    (k_law_steps : PySem.W.keepIn K (.ref f_law_steps) = true)
    (a_law_one : PySem.W.nsIn K mainGlobals "_law_one" = some (some (.ref f_law_one)))
    (l_law_one : K.lookup f_law_one = some ⟨oc_law_one, od_law_one, .func (PySem.W.fnOf "_law_one" "_law_one" (defArgs s_law_one) (defBody s_law_one) (defScope s_law_one) .none kV_law_one dc_law_one pm_law_one an_law_one cd_law_one ct_law_one), sl_law_one⟩)
    (c_law_one : PySem.W.codeIn K cd_law_one "_law_one" = true)
    (k_law_one : PySem.W.keepIn K (.ref f_law_one) = true)
    (a_law_same : PySem.W.nsIn K mainGlobals "_law_same" = some (some (.ref f_law_same)))
    (l_law_same : K.lookup f_law_same = some ⟨oc_law_same, od_law_same, .func (PySem.W.fnOf "_law_same" "_law_same" (defArgs s_law_same) (defBody s_law_same) (defScope s_law_same) .none kV_law_same dc_law_same pm_law_same an_law_same cd_law_same ct_law_same), sl_law_same⟩)
    (c_law_same : PySem.W.codeIn K cd_law_same "_law_same" = true)
    (k_law_same : PySem.W.keepIn K (.ref f_law_same) = true)
    (a_law_refused : PySem.W.nsIn K mainGlobals "_law_refused" = some (some (.ref f_law_refused)))
    (l_law_refused : K.lookup f_law_refused = some ⟨oc_law_refused, od_law_refused, .func (PySem.W.fnOf "_law_refused" "_law_refused" (defArgs s_law_refused) (defBody s_law_refused) (defScope s_law_refused) .none kV_law_refused dc_law_refused pm_law_refused an_law_refused cd_law_refused ct_law_refused), sl_law_refused⟩)
    (c_law_refused : PySem.W.codeIn K cd_law_refused "_law_refused" = true)
    (k_law_refused : PySem.W.keepIn K (.ref f_law_refused) = true)
    (a_law : PySem.W.nsIn K mainGlobals "law" = some (some (.ref f_law)))
    (l_law : K.lookup f_law = some ⟨oc_law, od_law, .func (PySem.W.fnOf "law" "law" (defArgs s_law) (defBody s_law) (defScope s_law) .none kV_law dc_law pm_law an_law cd_law ct_law), sl_law⟩)
    (c_law : PySem.W.codeIn K cd_law "law" = true)
    (k_law : PySem.W.keepIn K (.ref f_law) = true)
    (gv_GREATEST : PySem.W.nsIn K mainGlobals "GREATEST" = some (some (.int 1000000000000000000000000000000 tk_GREATEST)))
    (gv_DIGITS : PySem.W.nsIn K mainGlobals "DIGITS" = some (some (.str "0123456789" tk_DIGITS)))
    (gv_MOST_DIGITS : PySem.W.nsIn K mainGlobals "MOST_DIGITS" = some (some (.int 31 tk_MOST_DIGITS)))
    (gv_WORDS : PySem.W.nsIn K mainGlobals "WORDS" = some (some (.ref o_WORDS)))
    (dl_WORDS : K.lookup o_WORDS = some ⟨.type "dict", none, .dict #[⟨h0_WORDS, .str "r" tk0_WORDS, .str "read" tv0_WORDS⟩, ⟨h1_WORDS, .str "w" tk1_WORDS, .str "write" tv1_WORDS⟩, ⟨h2_WORDS, .str "c" tk2_WORDS, .str "commit" tv2_WORDS⟩, ⟨h3_WORDS, .str "a" tk3_WORDS, .str "abort" tv3_WORDS⟩] ep_WORDS, #[]⟩)
    (dk_WORDS : PySem.W.KeysLit w.params [⟨h0_WORDS, .str "r" tk0_WORDS, .str "read" tv0_WORDS⟩, ⟨h1_WORDS, .str "w" tk1_WORDS, .str "write" tv1_WORDS⟩, ⟨h2_WORDS, .str "c" tk2_WORDS, .str "commit" tv2_WORDS⟩, ⟨h3_WORDS, .str "a" tk3_WORDS, .str "abort" tv3_WORDS⟩])
    (ds_WORDS : (o_WORDS == sysModules) = false)
    (n_ValueError : PySem.W.nsIn K mainGlobals "ValueError" = some none)
    (n_all : PySem.W.nsIn K mainGlobals "all" = some none)
    (n_bool : PySem.W.nsIn K mainGlobals "bool" = some none)
    (n_enumerate : PySem.W.nsIn K mainGlobals "enumerate" = some none)
    (n_int : PySem.W.nsIn K mainGlobals "int" = some none)
    (n_isinstance : PySem.W.nsIn K mainGlobals "isinstance" = some none)
    (n_len : PySem.W.nsIn K mainGlobals "len" = some none)
    (n_list : PySem.W.nsIn K mainGlobals "list" = some none)
    (n_range : PySem.W.nsIn K mainGlobals "range" = some none)
    (n_str : PySem.W.nsIn K mainGlobals "str" = some none)
    (n_super : PySem.W.nsIn K mainGlobals "super" = some none)
    (n_tuple : PySem.W.nsIn K mainGlobals "tuple" = some none)
    : ∃ T : Txt w K mg, T.f_law = fa := by
  refine ⟨{
    isg := ⟨z_hn, z_ht⟩,
    c_StampError := c_StampError,
    g_StampError := PySem.W.mg_of X G gc_StampError,
    k_StampError := kc_StampError,
    c_BadStamp := c_BadStamp,
    g_BadStamp := PySem.W.mg_of X G gc_BadStamp,
    k_BadStamp := kc_BadStamp,
    c_BadStep := c_BadStep,
    g_BadStep := PySem.W.mg_of X G gc_BadStep,
    k_BadStep := kc_BadStep,
    oex_StampError := ⟨⟨_, _, _, _, _, _, _, _, _, _, _, _, _, _, _, xl_StampError, rfl⟩, sa_StampError, xb_StampError, xt_StampError, kc_StampError⟩,
    excc_StampError := ⟨ga_StampError, gg_StampError, xb_StampError, hd_StampError, ha_StampError, z_hn, z_ht, hm_StampError⟩,
    xfc_StampError := ⟨ga_StampError, gg_StampError, xb_StampError, hd_StampError⟩,
    exm_StampError_StampError := PySem.W.exm_ref xb_StampError hd_StampError xt_StampError sb_StampError_StampError,
    kit_StampError_StampError := ko_StampError_StampError,
    exm_StampError_BadStamp := PySem.W.exm_ref xb_BadStamp hd_BadStamp xt_BadStamp sb_StampError_BadStamp,
    kit_StampError_BadStamp := ko_StampError_BadStamp,
    exm_StampError_BadStep := PySem.W.exm_ref xb_BadStep hd_BadStep xt_BadStep sb_StampError_BadStep,
    kit_StampError_BadStep := ko_StampError_BadStep,
    kit_StampError_VE := kv_StampError,
    oex_BadStamp := ⟨⟨_, _, _, _, _, _, _, _, _, _, _, _, _, _, _, xl_BadStamp, rfl⟩, sa_BadStamp, xb_BadStamp, xt_BadStamp, kc_BadStamp⟩,
    excc_BadStamp := ⟨ga_BadStamp, gg_BadStamp, xb_BadStamp, hd_BadStamp, ha_BadStamp, z_hn, z_ht, hm_BadStamp⟩,
    xfc_BadStamp := ⟨ga_BadStamp, gg_BadStamp, xb_BadStamp, hd_BadStamp⟩,
    exm_BadStamp_StampError := PySem.W.exm_ref xb_StampError hd_StampError xt_StampError sb_BadStamp_StampError,
    kit_BadStamp_StampError := ko_BadStamp_StampError,
    exm_BadStamp_BadStamp := PySem.W.exm_ref xb_BadStamp hd_BadStamp xt_BadStamp sb_BadStamp_BadStamp,
    kit_BadStamp_BadStamp := ko_BadStamp_BadStamp,
    exm_BadStamp_BadStep := PySem.W.exm_ref xb_BadStep hd_BadStep xt_BadStep sb_BadStamp_BadStep,
    kit_BadStamp_BadStep := ko_BadStamp_BadStep,
    kit_BadStamp_VE := kv_BadStamp,
    na_BadStamp_given := na_BadStamp_given,
    oex_BadStep := ⟨⟨_, _, _, _, _, _, _, _, _, _, _, _, _, _, _, xl_BadStep, rfl⟩, sa_BadStep, xb_BadStep, xt_BadStep, kc_BadStep⟩,
    excc_BadStep := ⟨ga_BadStep, gg_BadStep, xb_BadStep, hd_BadStep, ha_BadStep, z_hn, z_ht, hm_BadStep⟩,
    xfc_BadStep := ⟨ga_BadStep, gg_BadStep, xb_BadStep, hd_BadStep⟩,
    exm_BadStep_StampError := PySem.W.exm_ref xb_StampError hd_StampError xt_StampError sb_BadStep_StampError,
    kit_BadStep_StampError := ko_BadStep_StampError,
    exm_BadStep_BadStamp := PySem.W.exm_ref xb_BadStamp hd_BadStamp xt_BadStamp sb_BadStep_BadStamp,
    kit_BadStep_BadStamp := ko_BadStep_BadStamp,
    exm_BadStep_BadStep := PySem.W.exm_ref xb_BadStep hd_BadStep xt_BadStep sb_BadStep_BadStep,
    kit_BadStep_BadStep := ko_BadStep_BadStep,
    kit_BadStep_VE := kv_BadStep,
    na_BadStep_index := na_BadStep_index,
    f_BadStamp_init := f_BadStamp_init,
    d_BadStamp_init := PySem.W.fnX "__init__" "BadStamp.__init__" (defArgs s_BadStamp_init) (defBody s_BadStamp_init) (defScope s_BadStamp_init) [(("__class__" : Str), cc_BadStamp_init)] .none kV_BadStamp_init dc_BadStamp_init pm_BadStamp_init an_BadStamp_init (.ref cdr_BadStamp_init) ct_BadStamp_init,
    cc_BadStamp_init := cc_BadStamp_init,
    cdr_BadStamp_init := cdr_BadStamp_init,
    S_BadStamp_init := ⟨⟨⟨_, _, _, _, _, _, _, _, _, _, _, _, _, _, _, xl_BadStamp, rfl⟩, sa_BadStamp, xb_BadStamp, xt_BadStamp, kc_BadStamp⟩, su_BadStamp_init, ve_BadStamp_init, md_BadStamp_init, z_th, PySem.W.mg_none_of X G z_su, rfl, rfl, ⟨_, _, _, _, _, _, _, _, rfl, l_BadStamp_init⟩, ⟨_, _, _, _, _, _, cv_BadStamp_init, cw_BadStamp_init, cx_BadStamp_init⟩, c_BadStamp_init, ⟨_, _, _, cl_BadStamp_init⟩, tp_BadStamp_init⟩,
    i_BadStamp_init := a_BadStamp_init,
    t_BadStamp_init := ti_BadStamp_init,
    f_BadStep_init := f_BadStep_init,
    d_BadStep_init := PySem.W.fnX "__init__" "BadStep.__init__" (defArgs s_BadStep_init) (defBody s_BadStep_init) (defScope s_BadStep_init) [(("__class__" : Str), cc_BadStep_init)] .none kV_BadStep_init dc_BadStep_init pm_BadStep_init an_BadStep_init (.ref cdr_BadStep_init) ct_BadStep_init,
    cc_BadStep_init := cc_BadStep_init,
    cdr_BadStep_init := cdr_BadStep_init,
    S_BadStep_init := ⟨⟨⟨_, _, _, _, _, _, _, _, _, _, _, _, _, _, _, xl_BadStep, rfl⟩, sa_BadStep, xb_BadStep, xt_BadStep, kc_BadStep⟩, su_BadStep_init, ve_BadStep_init, md_BadStep_init, z_th, PySem.W.mg_none_of X G z_su, rfl, rfl, ⟨_, _, _, _, _, _, _, _, rfl, l_BadStep_init⟩, ⟨_, _, _, _, _, _, cv_BadStep_init, cw_BadStep_init, cx_BadStep_init⟩, c_BadStep_init, ⟨_, _, _, cl_BadStep_init⟩, tp_BadStep_init⟩,
    i_BadStep_init := a_BadStep_init,
    t_BadStep_init := ti_BadStep_init,
    f_steps_of := f_steps_of,
    d_steps_of := PySem.W.fnOf "steps_of" "steps_of" (defArgs s_steps_of) (defBody s_steps_of) (defScope s_steps_of) (.ref T_steps_of) kV_steps_of dc_steps_of pm_steps_of an_steps_of cd_steps_of ct_steps_of,
    F_steps_of := ⟨⟨_, _, _, _, _, _, _, _, _, _, rfl, l_steps_of, c_steps_of, .inr ⟨by simp, _, _, [.str "x" tk0_steps_of], _, rfl, T1_steps_of, rfl, .cons ⟨_, rfl⟩ (.nil)⟩, .inl rfl⟩, k_steps_of⟩,
    g_steps_of := PySem.W.mg_of X G a_steps_of,
    f_is_numeral := f_is_numeral,
    d_is_numeral := PySem.W.fnOf "is_numeral" "is_numeral" (defArgs s_is_numeral) (defBody s_is_numeral) (defScope s_is_numeral) .none kV_is_numeral dc_is_numeral pm_is_numeral an_is_numeral cd_is_numeral ct_is_numeral,
    F_is_numeral := fun_mk l_is_numeral c_is_numeral k_is_numeral,
    g_is_numeral := PySem.W.mg_of X G a_is_numeral,
    f_law_cell := f_law_cell,
    d_law_cell := PySem.W.fnOf "_law_cell" "_law_cell" (defArgs s_law_cell) (defBody s_law_cell) (defScope s_law_cell) .none kV_law_cell dc_law_cell pm_law_cell an_law_cell cd_law_cell ct_law_cell,
    F_law_cell := fun_mk l_law_cell c_law_cell k_law_cell,
    g_law_cell := PySem.W.mg_of X G a_law_cell,
    f_law_row := f_law_row,
    d_law_row := PySem.W.fnOf "_law_row" "_law_row" (defArgs s_law_row) (defBody s_law_row) (defScope s_law_row) .none kV_law_row dc_law_row pm_law_row an_law_row cd_law_row ct_law_row,
    F_law_row := fun_mk l_law_row c_law_row k_law_row,
    g_law_row := PySem.W.mg_of X G a_law_row,
    f_law_marks := f_law_marks,
    d_law_marks := PySem.W.fnOf "_law_marks" "_law_marks" (defArgs s_law_marks) (defBody s_law_marks) (defScope s_law_marks) .none kV_law_marks dc_law_marks pm_law_marks an_law_marks cd_law_marks ct_law_marks,
    F_law_marks := fun_mk l_law_marks c_law_marks k_law_marks,
    g_law_marks := PySem.W.mg_of X G a_law_marks,
    f_law_names := f_law_names,
    d_law_names := PySem.W.fnOf "_law_names" "_law_names" (defArgs s_law_names) (defBody s_law_names) (defScope s_law_names) .none kV_law_names dc_law_names pm_law_names an_law_names cd_law_names ct_law_names,
    F_law_names := fun_mk l_law_names c_law_names k_law_names,
    g_law_names := PySem.W.mg_of X G a_law_names,
    f_law_steps := f_law_steps,
    d_law_steps := PySem.W.fnOf "_law_steps" "_law_steps" (defArgs s_law_steps) (defBody s_law_steps) (defScope s_law_steps) .none kV_law_steps dc_law_steps pm_law_steps an_law_steps cd_law_steps ct_law_steps,
    F_law_steps := fun_mk l_law_steps c_law_steps k_law_steps,
    g_law_steps := PySem.W.mg_of X G a_law_steps,
    f_law_one := f_law_one,
    d_law_one := PySem.W.fnOf "_law_one" "_law_one" (defArgs s_law_one) (defBody s_law_one) (defScope s_law_one) .none kV_law_one dc_law_one pm_law_one an_law_one cd_law_one ct_law_one,
    F_law_one := fun_mk l_law_one c_law_one k_law_one,
    g_law_one := PySem.W.mg_of X G a_law_one,
    f_law_same := f_law_same,
    d_law_same := PySem.W.fnOf "_law_same" "_law_same" (defArgs s_law_same) (defBody s_law_same) (defScope s_law_same) .none kV_law_same dc_law_same pm_law_same an_law_same cd_law_same ct_law_same,
    F_law_same := fun_mk l_law_same c_law_same k_law_same,
    g_law_same := PySem.W.mg_of X G a_law_same,
    f_law_refused := f_law_refused,
    d_law_refused := PySem.W.fnOf "_law_refused" "_law_refused" (defArgs s_law_refused) (defBody s_law_refused) (defScope s_law_refused) .none kV_law_refused dc_law_refused pm_law_refused an_law_refused cd_law_refused ct_law_refused,
    F_law_refused := fun_mk l_law_refused c_law_refused k_law_refused,
    g_law_refused := PySem.W.mg_of X G a_law_refused,
    f_law := f_law,
    d_law := PySem.W.fnOf "law" "law" (defArgs s_law) (defBody s_law) (defScope s_law) .none kV_law dc_law pm_law an_law cd_law ct_law,
    F_law := fun_mk l_law c_law k_law,
    g_law := PySem.W.mg_of X G a_law,
    g_GREATEST := ⟨_, PySem.W.mg_of X G gv_GREATEST⟩,
    g_DIGITS := ⟨_, PySem.W.mg_of X G gv_DIGITS⟩,
    g_MOST_DIGITS := ⟨_, PySem.W.mg_of X G gv_MOST_DIGITS⟩,
    o_WORDS := o_WORDS,
    g_WORDS := PySem.W.mg_of X G gv_WORDS,
    q_WORDS := ⟨#[⟨h0_WORDS, .str "r" tk0_WORDS, .str "read" tv0_WORDS⟩, ⟨h1_WORDS, .str "w" tk1_WORDS, .str "write" tv1_WORDS⟩, ⟨h2_WORDS, .str "c" tk2_WORDS, .str "commit" tv2_WORDS⟩, ⟨h3_WORDS, .str "a" tk3_WORDS, .str "abort" tv3_WORDS⟩], ep_WORDS, dl_WORDS, dk_WORDS, ds_WORDS, rfl, _, _, _, _, _, _, _, _, rfl⟩,
    n_ValueError := PySem.W.mg_none_of X G n_ValueError,
    n_all := PySem.W.mg_none_of X G n_all,
    n_bool := PySem.W.mg_none_of X G n_bool,
    n_enumerate := PySem.W.mg_none_of X G n_enumerate,
    n_int := PySem.W.mg_none_of X G n_int,
    n_isinstance := PySem.W.mg_none_of X G n_isinstance,
    n_len := PySem.W.mg_none_of X G n_len,
    n_list := PySem.W.mg_none_of X G n_list,
    n_range := PySem.W.mg_none_of X G n_range,
    n_str := PySem.W.mg_none_of X G n_str,
    n_super := PySem.W.mg_none_of X G n_super,
    n_tuple := PySem.W.mg_none_of X G n_tuple
  }, ?_⟩
  exact (Value.ref.inj (Option.some.inj (hfa.symm.trans (PySem.W.mg_of X G a_law)))).symm
end K09

/-! Short texts: the mathematics, without any Python. -/
namespace TX
open PySem L2 TL
inductive Kd where
  | rd | wr | cm | ab
def Kd.sg : Kd → Nat
  | .rd => 114 | .wr => 119 | .cm => 99 | .ab => 97
def Kd.nm : Kd → Str
  | .rd => "read" | .wr => "write" | .cm => "commit" | .ab => "abort"
def Kd.has : Kd → Bool
  | .rd => true | .wr => true | .cm => false | .ab => false
theorem Kd.sg_nm (k : Kd) : (tl k.nm)[0]? = some k.sg := by cases k <;> decide +kernel
theorem Kd.nm_len (k : Kd) : k.nm.length ≤ 6 ∧ 0 < k.nm.length := by cases k <;> decide +kernel
def topN : Nat := 1000000000000000000000000000000
/-- the signs of a word -/
def wordL (k : Kd) (n : Nat) : List Nat := k.sg :: numL n
def word (p : Kd × Nat) : Str := ⟨(wordL p.1 p.2).toArray⟩
theorem tl_word (p : Kd × Nat) : tl (word p) = wordL p.1 p.2 := rfl
/-- a stamp's numeral -/
def numOk (d : List Nat) : Bool := decide (1 ≤ d.length) && decide (d.length ≤ 31) && !decide (d.head? = some 48) && d.all (fun c => decide (48 ≤ c) && decide (c ≤ 57)) && decide (NumText.digitsVal d ≤ topN)
def sgOk (c : Nat) : Bool := decide (c = 114) || decide (c = 119) || decide (c = 99) || decide (c = 97)
def wordOk : List Nat → Bool
  | c :: d => sgOk c && numOk d
  | [] => false
theorem numL_head {n : Nat} (h : 1 ≤ n) : (numL n).head? ≠ some 48 := by
  induction n using Nat.strongRecOn with
  | _ n ih =>
    by_cases h10 : n < 10
    · rw [numL_lt h10]
      intro e
      have e' : 48 + n = 48 := by simpa using e
      omega
    · rw [numL_step (by omega)]
      have r := ih (n / 10) (by omega) (by omega)
      have ne := numL_ne (n / 10)
      cases hq : numL (n / 10) with
      | nil => exact absurd hq ne
      | cons c r' =>
        rw [hq] at r
        exact r
theorem numL_all (n : Nat) : (numL n).all (fun c => decide (48 ≤ c) && decide (c ≤ 57)) = true := by
  rw [List.all_eq_true]
  intro c hc
  have r := numL_digits n c hc
  simp only [Bool.and_eq_true, decide_eq_true_eq]
  omega
theorem numL_len31 {n : Nat} (h : n ≤ topN) : (numL n).length ≤ 31 := numL_len (by decide) (Nat.lt_of_le_of_lt h (by decide))
theorem numOk_num {n : Nat} (h1 : 1 ≤ n) (h2 : n ≤ topN) : numOk (numL n) = true := by
  unfold numOk
  have a1 : 1 ≤ (numL n).length := by
    cases hq : numL n with
    | nil => exact absurd hq (numL_ne n)
    | cons c r => simp
  rw [decide_eq_true a1, decide_eq_true (numL_len31 h2), decide_eq_false (numL_head h1), numL_all, numL_val, decide_eq_true h2]
  rfl
theorem numOk_big {n : Nat} (h : topN < n) : numOk (numL n) = false := by
  unfold numOk
  rw [numL_val, decide_eq_false (show ¬ n ≤ topN by omega), Bool.and_false]
theorem sgOk_sg (k : Kd) : sgOk k.sg = true := by cases k <;> rfl
theorem wordOk_word {k : Kd} {n : Nat} (h1 : 1 ≤ n) (h2 : n ≤ topN) : wordOk (wordL k n) = true := by
  show (sgOk k.sg && numOk (numL n)) = true
  rw [sgOk_sg, numOk_num h1 h2]
  rfl
theorem word_len {k : Kd} {n : Nat} (h2 : n ≤ topN) : (wordL k n).length ≤ 32 := by
  show (numL n).length + 1 ≤ 32
  have := numL_len31 h2
  omega
theorem word_free {k : Kd} {n : Nat} : (32 : Nat) ∉ wordL k n := by
  intro h
  rcases List.mem_cons.mp h with h | h
  · cases k <;> cases h
  · exact numL_free (.inl (by decide)) h
/-! ### texts of words -/
abbrev sp : Str := " "
theorem tl_sp : tl sp = [32] := by decide +kernel
/-- the first piece of a word (a word with a blank in it is two) -/
def Heads (w b : List Nat) : Prop := (32 ∉ w ∧ b = w) ∨ ∃ x, w = b ++ 32 :: x ∧ 32 ∉ b
theorem spl_heads {w b : List Nat} (h : Heads w b) (post : List (List Nat)) : ∃ rest, spl [32] 0 [] (joinL [32] (w :: post)) = b :: rest := by
  rcases h with ⟨h, rfl⟩ | ⟨x, rfl, h⟩
  · cases post with
    | nil => exact ⟨[], by show spl [32] 0 [] b = _; rw [spl_last1 h]; rfl⟩
    | cons q r => exact ⟨_, spl_part1 (acc := []) (rest := joinL [32] (q :: r)) h⟩
  · cases post with
    | nil =>
      refine ⟨spl [32] 0 [] x, ?_⟩
      exact spl_part1 (acc := []) (rest := x) h
    | cons q r =>
      refine ⟨spl [32] 0 [] (x ++ ([32] ++ joinL [32] (q :: r))), ?_⟩
      have e : joinL [32] ((b ++ 32 :: x) :: q :: r) = b ++ ([32] ++ (x ++ ([32] ++ joinL [32] (q :: r)))) := by
        show (b ++ 32 :: x) ++ ([32] ++ joinL [32] (q :: r)) = _
        simp
      rw [e]
      exact spl_part1 (acc := []) h
theorem spl_pre {w b : List Nat} (h : Heads w b) (post : List (List Nat)) : ∀ {pre : List (List Nat)}, (∀ p ∈ pre, 32 ∉ p) → ∃ rest, spl [32] 0 [] (joinL [32] (pre ++ w :: post)) = pre ++ b :: rest
  | [], _ => spl_heads h post
  | p :: r, hp => by
    obtain ⟨rest, e⟩ := spl_pre h post (pre := r) fun z hz => hp z (List.mem_cons_of_mem _ hz)
    refine ⟨rest, ?_⟩
    have e2 : joinL [32] ((p :: r) ++ w :: post) = p ++ ([32] ++ joinL [32] (r ++ w :: post)) := by
      cases r with
      | nil => rfl
      | cons _ _ => rfl
    rw [e2]
    have z := spl_part1 (s := 32) (S := []) (acc := []) (rest := joinL [32] (r ++ w :: post)) (hp p (List.mem_cons_self ..))
    show spl [32] 0 [] (p ++ ([32] ++ joinL [32] (r ++ w :: post))) = p :: (r ++ b :: rest)
    rw [← e]
    exact z
theorem sp_ok : sp.cps.all (· < 256) = true := by decide +kernel
theorem split_tl (x : Str) : (Txt.split x sp).map tl = spl [32] 0 [] (tl x) := by
  rw [split_spl x sp (by rw [tl_sp]; simp) (kind_ok sp_ok), tl_sp]
theorem tl_joinS (ws : List Str) : tl (Txt.join sp ws) = joinL [32] (ws.map tl) := by rw [join_eq, tl_join, tl_sp]
theorem free_words {L : List (Kd × Nat)} : ∀ p ∈ (L.map word).map tl, (32 : Nat) ∉ p := by
  intro p hp
  obtain ⟨w, hw, rfl⟩ := List.mem_map.mp hp
  obtain ⟨q, _, rfl⟩ := List.mem_map.mp hw
  exact word_free
/-- a text of good words, split -/
theorem split_good {L : List (Kd × Nat)} (h : L ≠ []) : Txt.split (Txt.join sp (L.map word)) sp = L.map word :=
  split_join (s := 32) (S := []) tl_sp sp_ok (fun e => h (List.map_eq_nil_iff.mp e)) fun p hp => by
    obtain ⟨q, _, rfl⟩ := List.mem_map.mp hp
    exact word_free
/-- a text with a bad word behind good ones, split -/
theorem split_bad {L : List (Kd × Nat)} {w b : Str} (h : Heads (tl w) (tl b)) (post : List Str) : ∃ rest, Txt.split (Txt.join sp (L.map word ++ w :: post)) sp = L.map word ++ b :: rest := by
  obtain ⟨rest, e⟩ := spl_pre h (post.map tl) (free_words (L := L))
  refine ⟨rest.map fun l => ⟨l.toArray⟩, map_tl_inj ?_⟩
  rw [split_tl, tl_joinS, List.map_append, List.map_cons, e, List.map_append, List.map_cons, List.map_map]
  congr 2
  have : (tl ∘ fun l : List Nat => (⟨l.toArray⟩ : Str)) = id := by
    funext l
    rfl
  rw [List.map_map, this, List.map_id]
theorem joinL_len {c : Nat} : ∀ {ps : List (List Nat)}, (∀ p ∈ ps, p.length ≤ c) → (joinL [32] ps).length ≤ ps.length * (c + 1)
  | [], _ => Nat.zero_le _
  | [p], h => by
    have := h p (List.mem_singleton.mpr rfl)
    show p.length ≤ 1 * (c + 1)
    omega
  | p :: q :: r, h => by
    have h1 := h p (List.mem_cons_self ..)
    have h2 := joinL_len (ps := q :: r) fun z hz => h z (List.mem_cons_of_mem _ hz)
    show (p ++ ([32] ++ joinL [32] (q :: r))).length ≤ (r.length + 1 + 1) * (c + 1)
    rw [List.length_append, List.length_append]
    have e : (r.length + 1 + 1) * (c + 1) = (r.length + 1) * (c + 1) + (c + 1) := by rw [Nat.add_mul, Nat.one_mul]
    have h3 : ((q :: r).length) * (c + 1) = (r.length + 1) * (c + 1) := rfl
    rw [h3] at h2
    have h4 : ([32] : List Nat).length = 1 := rfl
    omega
theorem join_len {c : Nat} {ws : List Str} (h : ∀ w ∈ ws, w.length ≤ c) : (Txt.join sp ws).length ≤ ws.length * (c + 1) := by
  rw [len_tl, tl_joinS]
  have := joinL_len (c := c) (ps := ws.map tl) fun p hp => by
    obtain ⟨w, hw, rfl⟩ := List.mem_map.mp hp
    rw [← len_tl]
    exact h w hw
  rw [List.length_map] at this
  exact this
theorem sum_len {c : Nat} : ∀ {ws : List Str}, (∀ w ∈ ws, w.length ≤ c) → (ws.map (·.length)).sum ≤ ws.length * c
  | [], _ => Nat.zero_le _
  | w :: r, h => by
    have h1 := h w (List.mem_cons_self ..)
    have h2 := sum_len (ws := r) fun z hz => h z (List.mem_cons_of_mem _ hz)
    show w.length + (r.map (·.length)).sum ≤ (r.length + 1) * c
    rw [Nat.add_mul, Nat.one_mul]
    omega
/-- what is no word, and what is read of it -/
def BadW (w : Str) : Prop := w.length ≤ 100 ∧ ∃ b : Str, Heads (tl w) (tl b) ∧ wordOk (tl b) = false ∧ b.length ≤ 100
theorem badW_free {w : Str} (h : ¬ (32 : Nat) ∈ tl w) (o : wordOk (tl w) = false) (l : w.length ≤ 100) : BadW w := ⟨l, w, .inl ⟨h, rfl⟩, o, l⟩
def bads : List Str := ["w", "7", "W2", "x2", "w02", "r0", "c-1", "a+1", "w2x", "2w", "ww2", "r1_0", "c1.0", "w1\n"]
theorem bads_bad : ∀ w ∈ bads, BadW w := by
  intro w hw
  simp only [bads, List.mem_cons, List.not_mem_nil, or_false] at hw
  rcases hw with rfl | rfl | rfl | rfl | rfl | rfl | rfl | rfl | rfl | rfl | rfl | rfl | rfl | rfl
  all_goals exact badW_free (by decide +kernel) (by decide +kernel) (by decide +kernel)
theorem bad_write : BadW "write" := badW_free (by decide +kernel) (by decide +kernel) (by decide +kernel)
theorem bad_empty : BadW "" := badW_free (by decide +kernel) (by decide +kernel) (by decide +kernel)
theorem bad_a00 : BadW "a00" := badW_free (by decide +kernel) (by decide +kernel) (by decide +kernel)
theorem bad_w2 : BadW "w 2" := ⟨by decide +kernel, "w", .inr ⟨[50], by decide +kernel, by decide +kernel⟩, by decide +kernel, by decide +kernel⟩
theorem bad_big {n : Nat} (h : topN < n) (h2 : n < 10 ^ 45) : BadW (⟨(114 :: numL n).toArray⟩ : Str) := by
  have hl : (numL n).length ≤ 45 := numL_len (by decide) h2
  have l : (⟨(114 :: numL n).toArray⟩ : Str).length ≤ 100 := by
    rw [len_tl]
    show (numL n).length + 1 ≤ 100
    omega
  refine badW_free ?_ ?_ l
  · intro z
    rcases List.mem_cons.mp z with z | z
    · cases z
    · exact numL_free (.inl (by decide)) z
  · show (sgOk 114 && numOk (numL n)) = false
    rw [numOk_big h, Bool.and_false]
end TX

namespace K09
open PySem L2 SI CM TX TL
section
variable {w : World} {K : PySem.W.Frag} {mg : Str → Option Value} {base : Heap} (T : Txt w K mg)
abbrev PP : Program := PySem.Challenge.rw_stamprules_k09_short_texts.prog
theorem log_of {n : Nat} (h : n < 10 ^ 50) : ((n : Int)).natAbs.log2 < 1920 := by
  show n.log2 < 1920
  by_cases h0 : n = 0
  · subst h0
    decide
  · exact (Nat.log2_lt h0).mpr (Nat.lt_of_lt_of_le h (by decide +kernel))
theorem num_len {n : Nat} (h : n < 10 ^ 50) : (Str.ofString (toString ((n : Nat) : Int))).length ≤ 50 := by
  rw [len_tl, tl_num]
  exact numL_len (by decide) h
def spBad (C : Addr) (f : Str) : Sp := fun vs H Q _ => ∃ a, ∃ i : Nat, vs = [.ref a, .int (i : Int)] ∧ H a = some (exo a C none) ∧ i < 10 ^ 50 ∧ ∀ dx, H dx = none → dx ≠ a → Q .non (upd (upd H dx (exd dx [(f, .int (i : Int))])) a (exo a C (some dx)))
theorem ok_bad : FnOk PP w K mg base CX0 1 T.f_BadStep_init T.d_BadStep_init ["self", "index"] (spBad T.c_BadStep "index") := by
  refine ok_sup (N := ["self", "index", "__class__"]) T.S_BadStep_init sc_BadStep_init rfl (show (defScope s_BadStep_init).names.lookup ("super" : Str) = some .globalImplicit by decide +kernel) rfl rfl (fun vs H Q E h => ?_) (fun A outer s H vs Q E hr h => ?_)
  · obtain ⟨a, i, rfl, _⟩ := h
    rfl
  · obtain ⟨a, i, rfl, ha, hi, k⟩ := h
    refine ⟨a, _, _, _, pa_cons (pe_joined (.cons pe_str (.cons (pe_fmt (pv 1)) .nil))) pa_nil, pss_one (ps_ost (pv 0) (pv 1)), rfl, fun M B u Q' E' s' z => PySem.Calls.evalArgs_plain z, rfl, rfl, rfl, ha, ?_⟩
    refine ⟨_, rfl, (by decide +kernel : (Str.empty ++ Str.ofString "no step at index ").length ≤ sizeLine), _, rfl, .inr ⟨i, rfl, log_of hi, _, rfl, ?_, by show 1 ≤ 1000; decide, ha, ?_⟩⟩
    · show (Str.empty ++ Str.ofString "no step at index " ++ Str.ofString (toString (i : Int))).length ≤ sizeLine
      rw [len_tl, tl_append, List.length_append, ← len_tl, ← len_tl]
      have h1 : (Str.empty ++ Str.ofString "no step at index ").length = 17 := by decide +kernel
      have h2 : (Str.ofString (toString (i : Int))).length ≤ 50 := num_len hi
      rw [h1, sizeLine_eq]
      omega
    · exact ⟨_, rfl, _, rfl, _, _, rfl, T.oex_BadStep, T.na_BadStep_index, .inl ⟨ha, fun dx n ne => k dx n ne⟩⟩
theorem wd_of : ∀ {ks : List ((Str × Tok) × (Str × Tok))} {l : List DictEntry}, l.map (fun e => (e.key, e.val)) = ks.map (fun q => (Value.str q.1.1 q.1.2, Value.str q.2.1 q.2.2)) →
    Paired (fun (e : DictEntry) (q : Str × Str) => (∃ t, e.key = .str q.1 t) ∧ ∃ t, e.val = .str q.2 t) l (ks.map fun q => (q.1.1, q.2.1))
  | [], [], _ => .nil
  | [], _ :: _, h => by cases h
  | _ :: _, [], h => by cases h
  | q :: ks, e :: l, h => by
    rw [List.map_cons, List.map_cons, List.cons.injEq, Prod.mk.injEq] at h
    exact .cons ⟨⟨_, h.1.1⟩, _, h.1.2⟩ (wd_of h.2)
def WL : List (Str × Str) := [("r", "read"), ("w", "write"), ("c", "commit"), ("a", "abort")]
theorem wdct : WDct K w T.o_WORDS WL := by
  obtain ⟨es, ep, h1, h2, h3, _, k0, k1, k2, k3, v0, v1, v2, v3, h4⟩ := T.q_WORDS
  refine ⟨es, ep, h1, h2, h3, ?_⟩
  exact wd_of (ks := [(("r", k0), ("read", v0)), (("w", k1), ("write", v1)), (("c", k2), ("commit", v2)), (("a", k3), ("abort", v3))]) h4
abbrev DG : Str := "0123456789"
theorem sign0 (c : Nat) : decide (V.str ⟨#[c]⟩ = V.str "0") = decide (c = 48) := by
  have e : ("0" : Str) = ⟨#[48]⟩ := by decide +kernel
  rw [e]
  refine decide_eq_decide.mpr ⟨fun h => ?_, fun h => by rw [h]⟩
  have h1 := V.str.inj h
  have h2 : tl (⟨#[c]⟩ : Str) = tl (⟨#[48]⟩ : Str) := by rw [h1]
  have h3 : [c] = [48] := h2
  simpa using h3
theorem digit_in (c : Nat) : decide (c ∈ tl DG) = (decide (48 ≤ c) && decide (c ≤ 57)) := by
  have e : tl DG = [48, 49, 50, 51, 52, 53, 54, 55, 56, 57] := by decide +kernel
  rw [e, ← Bool.decide_and]
  refine decide_eq_decide.mpr ?_
  simp only [List.mem_cons, List.not_mem_nil, or_false]
  omega
def spNum : Sp := fun vs H Q _ => ∃ z, vs = [.str z] ∧ z.length ≤ 1000 ∧ ∀ H', Same H H' → Q (.bl (numOk (tl z))) H'
theorem ok_num : FnOk PP w K mg base CX0 1 T.f_is_numeral T.d_is_numeral ["digits"] spNum := by
  refine T.F_is_numeral.ok sc_is_numeral (fun vs H Q E h => ?_) (fun cdv A outer s H vs Q E hr h => ?_)
  · obtain ⟨z, rfl, _⟩ := h
    rfl
  · obtain ⟨z, rfl, hz, k⟩ := h
    obtain ⟨t1, hG⟩ := T.g_GREATEST
    obtain ⟨t2, hM⟩ := T.g_MOST_DIGITS
    obtain ⟨t3, hD⟩ := T.g_DIGITS
    have hzl : z.length ≤ sizeLine := Nat.le_trans hz (by decide)
    refine ⟨_, pss_cons (ps_if (pt_not (pt_chain op_le op_le pe_int (pe_callB call_len_str (by rfl) T.n_len PySem.boot_len (pa_cons (pv 0) pa_nil)) (pe_glob (v := .int 31) (by rfl) hM ⟨_, rfl⟩))) (pss_one (ps_ret pe_bl)) pss_nil)
      (pss_cons (ps_if (PW.pt (pw_or (pt_cmpR op_eq (pe_ix ix_str (pv 0) pe_int (fun _ _ => rfl)) pe_str (nomark _)) (pw_or1 (pt_not (pt_val (pe_callB (cr_all rfl) (by rfl) T.n_all (by decide +kernel) (pa_cons
          (pe_lc (own := [("digit", 1)]) (g := gName 1) (tt := tYes) (by rfl) sc_is_numeral.nd (pi_str (pv 0)) (blkOk_by (N := ["digits", "digit"]) (sc := defScope s_is_numeral) (by decide +kernel)) (fun _ _ _ _ _ => pg_name (i := 1) sc_is_numeral.nd rfl (Or.inl rfl)) (fun _ _ _ _ _ => pts_nil)
            (fun _ _ _ _ _ => pe_cmpR op_in_sign (pv 1) (pe_glob (v := .str "0123456789") (by rfl) hD ⟨_, rfl⟩) rfl)) pa_nil))))))) (pss_one (ps_ret pe_bl)) pss_nil)
      (pss_one (ps_ret (pe_cmpR op_le (pe_callTy call_int_str (by rfl) T.n_int (by decide +kernel) (pa_cons (pv 0) pa_nil)) (pe_glob (v := .int 1000000000000000000000000000000) (by rfl) hG ⟨_, rfl⟩) (nomark _))))), ?_⟩
    refine ⟨_, rfl, _, rfl, hzl, _, _, rfl, rfl, _, rfl, ?_⟩
    have hl : (z.length : Int) = ((tl z).length : Int) := by rw [len_tl]
    by_cases h1 : 1 ≤ (tl z).length
    · rw [hl, decide_eq_true (by omega : (1 : Int) ≤ ((tl z).length : Int))]
      refine iteT ⟨_, _, rfl, rfl, _, rfl, ?_⟩
      by_cases h31 : (tl z).length ≤ 31
      · rw [decide_eq_true (by omega : ((tl z).length : Int) ≤ 31)]
        refine iteF ?_
        obtain ⟨c, d, ec⟩ : ∃ c d, tl z = c :: d := by
          cases hq : tl z with
          | nil =>
            rw [hq] at h1
            cases h1
          | cons c d => exact ⟨c, d, rfl⟩
        refine ⟨_, rfl, z, 0, c, rfl, rfl, hzl, ?_, ?_⟩
        · have q := atI_nat (xs := tl z) (j := 0) (v := c) (by rw [ec] <;> rfl)
          exact q
        refine ⟨rfl, _, rfl, ?_⟩
        rw [sign0]
        by_cases h48 : c = 48
        · rw [decide_eq_true h48]
          refine iteT ?_
          refine iteT ?_
          have e : numOk (tl z) = false := by
            unfold numOk
            rw [ec, h48]
            simp
          have q := k H (Same.refl H)
          rw [e] at q
          exact q
        · rw [decide_eq_false h48]
          refine iteF ⟨_, rfl, z, rfl, fun D nD => lc_it (walk_str (z := z)) (fun i H' => H' D = some (.lst (((tl z).take i).map fun c => V.bl (decide (c ∈ tl DG)))) ∧ Same H H') ⟨upd_same, same_new (Same.refl H) nD⟩ (fun _ _ _ _ => trivial) ?_ ?_⟩
          · rintro i x H1 H' hi ⟨hD', sm⟩ ⟨rfl, c', hc', rfl⟩
            refine ⟨rfl, ?_⟩
            refine ⟨_, rfl, c', _, rfl, rfl, _, hD', small1000 (by rw [List.length_map, List.length_take]; rw [len_tl] at hz; omega), ?_, ?_⟩
            · rw [upd_same]
              have hc2 : (tl z)[i]? = some c' := by rw [← Array.getElem?_toList] at hc'; exact hc'
              rw [List.take_add_one, hc2, List.map_append]
              rfl
            · intro b o q
              rw [upd_ne (ne_of_none q nD)]
              exact sm b o q
          · rintro H' ⟨hD', sm⟩
            have hn : z.cps.size = (tl z).length := by simp [tl]
            rw [hn, List.take_length] at hD'
            refine ⟨D, (tl z).map fun c => decide (c ∈ tl DG), rfl, SqL.of (by rw [hD', List.map_map] <;> rfl), _, rfl, ?_⟩
            have eall : ((tl z).map fun c => decide (c ∈ tl DG)).all id = (tl z).all (fun c => decide (48 ≤ c) && decide (c ≤ 57)) := by
              rw [List.all_map]
              congr 1
              funext c
              exact digit_in c
            rw [eall]
            cases hall : (tl z).all (fun c => decide (48 ≤ c) && decide (c ≤ 57)) with
            | false =>
              refine iteT ?_
              have e : numOk (tl z) = false := by
                unfold numOk
                rw [hall]
                simp
              have q := k H' sm
              rw [e] at q
              exact q
            | true =>
              refine iteF ?_
              have hne : tl z ≠ [] := by rw [ec]; simp
              have hi := SX.int_S hall hne (by omega)
              refine ⟨_, rfl, z, _, rfl, hi, by rw [len_tl]; omega, _, _, rfl, rfl, ?_⟩
              have e : numOk (tl z) = decide (((NumText.digitsVal (tl z) : Nat) : Int) ≤ 1000000000000000000000000000000) := by
                unfold numOk
                rw [hall, decide_eq_true h1, decide_eq_true h31, decide_eq_false (show ¬ (tl z).head? = some 48 by rw [ec]; simpa using h48)]
                have : decide (NumText.digitsVal (tl z) ≤ topN) = decide (((NumText.digitsVal (tl z) : Nat) : Int) ≤ 1000000000000000000000000000000) := by
                  have e2 : (topN : Int) = 1000000000000000000000000000000 := rfl
                  rw [← e2]
                  exact decide_eq_decide.mpr (by omega)
                rw [this]
                rfl
              have q := k H' sm
              rw [e] at q
              exact q
      · rw [decide_eq_false (by omega : ¬ ((tl z).length : Int) ≤ 31)]
        refine iteT ?_
        have e : numOk (tl z) = false := by
          unfold numOk
          rw [decide_eq_false h31]
          simp
        have q := k H (Same.refl H)
        rw [e] at q
        exact q
    · rw [hl, decide_eq_false (by omega : ¬ (1 : Int) ≤ ((tl z).length : Int))]
      refine iteF ⟨_, rfl, ?_⟩
      refine iteT ?_
      have e : numOk (tl z) = false := by
        unfold numOk
        rw [decide_eq_false h1]
        simp
      have q := k H (Same.refl H)
      rw [e] at q
      exact q
end
end K09

namespace K09
open PySem L2 SI CM TX TL
section
variable {w : World} {K : PySem.W.Frag} {mg : Str → Option Value} {base : Heap} (T : Txt w K mg)
/-- a step as a tuple -/
def stepV (it : Str) (p : Kd × Nat) : List V := if p.1.has = true then [.str p.1.nm, .int (p.2 : Int), .str it] else [.str p.1.nm, .int (p.2 : Int)]
/-- at p a list of the steps L -/
def IsRun (H : Hp) (p : Addr) (L : List (Kd × Nat)) (it : Str) : Prop :=
  ∃ qs : List Addr, H p = some (.lst (qs.map V.ref)) ∧ qs.length = L.length ∧ ∀ (i : Nat) q x, qs[i]? = some q → L[i]? = some x → H q = some (.tup (stepV it x))
theorem IsRun.same {H H' : Hp} {p : Addr} {L : List (Kd × Nat)} {it : Str} (s : Same H H') (r : IsRun H p L it) : IsRun H' p L it := by
  obtain ⟨qs, h1, h2, h3⟩ := r
  exact ⟨qs, s _ _ h1, h2, fun i q x a b => s _ _ (h3 i q x a b)⟩
def Good (L : List (Kd × Nat)) : Prop := ∀ x ∈ L, 1 ≤ x.2 ∧ x.2 ≤ topN
theorem look_nil : WL.lookup (⟨#[]⟩ : Str) = none := by decide +kernel
theorem look_sg (k : Kd) : WL.lookup (⟨#[k.sg]⟩ : Str) = some k.nm := by cases k <;> decide +kernel
theorem str1_inj {a b : Nat} : (⟨#[a]⟩ : Str) = ⟨#[b]⟩ ↔ a = b := by
  constructor
  · intro h
    have h2 : tl (⟨#[a]⟩ : Str) = tl (⟨#[b]⟩ : Str) := by rw [h]
    have h3 : [a] = [b] := h2
    simpa using h3
  · intro h
    rw [h]
theorem look_isSome (c : Nat) : (WL.lookup (⟨#[c]⟩ : Str)).isSome = sgOk c := by
  have e1 : ("r" : Str) = ⟨#[114]⟩ := by decide +kernel
  have e2 : ("w" : Str) = ⟨#[119]⟩ := by decide +kernel
  have e3 : ("c" : Str) = ⟨#[99]⟩ := by decide +kernel
  have e4 : ("a" : Str) = ⟨#[97]⟩ := by decide +kernel
  by_cases h1 : c = 114
  · subst h1; decide +kernel
  by_cases h2 : c = 119
  · subst h2; decide +kernel
  by_cases h3 : c = 99
  · subst h3; decide +kernel
  by_cases h4 : c = 97
  · subst h4; decide +kernel
  unfold WL sgOk
  rw [e1, e2, e3, e4]
  have g : ∀ {x : Nat}, ¬ c = x → ((⟨#[c]⟩ : Str) == ⟨#[x]⟩) = false := fun {x} h => by
    have : ¬ (⟨#[c]⟩ : Str) = ⟨#[x]⟩ := fun q => h (str1_inj.mp q)
    simpa using this
  simp [List.lookup, g h1, g h2, g h3, g h4, h1, h2, h3, h4]
theorem cut_one {z : Str} {c : Nat} {d : List Nat} (e : tl z = c :: d) : cutS z none (some 1) = ⟨#[c]⟩ := ext_tl (by rw [cut_head, e] <;> rfl)
theorem cut_nil {z : Str} (e : tl z = []) : cutS z none (some 1) = ⟨#[]⟩ := ext_tl (by rw [cut_head, e] <;> rfl)
theorem cut_rest {z : Str} {c : Nat} {d : List Nat} (e : tl z = c :: d) : cutS z (some 1) none = ⟨d.toArray⟩ := ext_tl (by rw [cut_tail, e] <;> rfl)
theorem in_two (k : Kd) : inV (.str k.nm) [.str "read", .str "write"] = k.has := by cases k <;> decide +kernel
def spSteps (B : Addr) : Sp := fun vs H Q E => ∃ t it, vs = [.str t, .str it] ∧ t.length ≤ 100000 ∧
  ((tl t = [] ∧ ∀ H' p, Same H H' → IsRun H' p [] it → Q (.ref p) H') ∨
   (∃ L, L ≠ [] ∧ tl t ≠ [] ∧ Good L ∧ L.length ≤ 1000 ∧ Txt.split t sp = L.map word ∧ ∀ H' p, Same H H' → IsRun H' p L it → Q (.ref p) H') ∨
   (∃ L b rest, tl t ≠ [] ∧ Good L ∧ L.length ≤ 1000 ∧ Txt.split t sp = L.map word ++ b :: rest ∧ wordOk (tl b) = false ∧ b.length ≤ 100 ∧
     ∀ H' d, Same H H' → H' d = some (.xd [(("index" : Str), .int (L.length : Int))]) → E (.ref B) (some d) H'))
theorem ok_steps : FnOk PP w K mg base (L2.CX PP w) 4 T.f_steps_of T.d_steps_of ["text", "item"] (spSteps T.c_BadStep) := by
  refine T.F_steps_of.ok sc_steps_of (fun vs H Q E h => ?_) (fun cdv A outer s H vs Q E hr h => ?_)
  · obtain ⟨t, it, rfl, _⟩ := h
    rfl
  · obtain ⟨t, it, rfl, htl, hk⟩ := h
    have hr1 : Room 1 _ := hr.mono (by decide)
    have hr2 : Room 2 _ := hr.mono (by decide)
    refine ⟨_, pss_cons (ps_if (pt_cmpR op_eq (pv 0) pe_str (nomark _)) (pss_one (ps_ret (pe_lst pa_nil))) pss_nil)
      (pss_cons (ps_set (i := 2) sc_steps_of.nd rfl (.inl rfl) (pe_lst pa_nil))
      (pss_cons (ps_for (passes_of rfl) rfl (pi_enum (by rfl) T.n_enumerate (pa_cons (pe_split (pv 0) pe_str) pa_nil)) (pg_tup rfl (pgs_cons (pg_name (i := 3) sc_steps_of.nd rfl (.inl rfl)) (pgs_cons (pg_name (i := 4) sc_steps_of.nd rfl (.inl rfl)) pgs_nil)))
        (pss_cons (ps_if (PW.pt (pw_or (pt_cmpR op_notinW (pe_slice sl_str (pv 4) po_none (po_some pe_int)) (pe_glob (v := .ref T.o_WORDS) (by rfl) T.g_WORDS rfl) rfl)
            (pw_or1 (pt_not (pt_val (pe_call (ok_num T) hr1 (by rfl) T.g_is_numeral T.F_is_numeral.kp (b_is_numeral T) .nil pass0 (pa_cons (pe_slice sl_str (pv 4) (po_some pe_int) po_none) pa_nil)))))))
          (pss_one (ps_raise rfl (takes_of rfl rfl rfl rfl) (pmk_oex T.oex_BadStep T.i_BadStep_init T.t_BadStep_init (ok_bad T) hr2 (b_BadStep_init T) .nil pass0 (by rfl) T.g_BadStep (pa_cons (pv 3) pa_nil)))) pss_nil)
        (pss_cons (ps_par (i := 5) (j := 6) (by rfl) sc_steps_of.nd rfl rfl (by decide) rfl rfl (pa_cons (pe_ix ix_W (pe_glob (v := .ref T.o_WORDS) (by rfl) T.g_WORDS rfl) (pe_ix ix_str (pv 4) pe_int (fun _ _ => rfl)) (fun _ _ => rfl))
            (pa_cons (pe_callTy call_int_str (by rfl) T.n_int (by decide +kernel) (pa_cons (pe_slice sl_str (pv 4) (po_some pe_int) po_none) pa_nil)) pa_nil)) (by rfl))
        (pss_one (ps_if (pt_cmpR op_in_seq (pv 5) (pe_tup (pa_cons pe_str (pa_cons pe_str pa_nil))) rfl)
          (pss_one (ps_expr (pe_bm PySem.F.plainAttrs_list PySem.F.slot_list_append PySem.F.type_list_append mt_append (pv 2) (pa_cons (pe_tup (pa_cons (pv 5) (pa_cons (pv 6) (pa_cons (pv 1) pa_nil)))) pa_nil))))
          (pss_one (ps_expr (pe_bm PySem.F.plainAttrs_list PySem.F.slot_list_append PySem.F.type_list_append mt_append (pv 2) (pa_cons (pe_tup (pa_cons (pv 5) (pa_cons (pv 6) pa_nil))) pa_nil)))))))))
      (pss_one (ps_ret (pv 2))))), ?_⟩
    have z0 : 0 ≤ sizeLine := Nat.zero_le _
    have two : 2 ≤ sizeLine := by decide
    have three : 3 ≤ sizeLine := by decide
    have spl : (sp.length == 0) = false := by decide +kernel
    have big : (1000 : Nat) < 10 ^ 50 := by decide +kernel
    have htl2 : t.length + 2 ≤ sizeLine := by rw [sizeLine_eq]; omega
    by_cases et : tl t = []
    · have e : t = "" := ext_tl (by rw [et]; decide +kernel)
      rcases hk with ⟨_, k⟩ | ⟨L, _, h, _⟩ | ⟨L, b, rest, h, _⟩
      · refine ⟨_, rfl, rfl, _, rfl, ?_⟩
        rw [decide_eq_true (by rw [e] : V.str t = V.str "")]
        refine iteT ⟨z0, fun p np => ?_⟩
        exact k _ p (same_new (Same.refl H) np) ⟨[], upd_same, rfl, fun i q x h => by simp at h⟩
      · exact absurd et h
      · exact absurd et h
    have ne : ¬ V.str t = V.str "" := fun q => et (by rw [V.str.inj q]; decide +kernel)
    refine ⟨_, rfl, rfl, _, rfl, ?_⟩
    rw [decide_eq_false ne]
    refine iteF ⟨z0, fun R nR => ?_⟩
    refine ⟨_, rfl, ⟨_, rfl⟩, t, sp, rfl, rfl, spl, htl2, fun W nW => ⟨W, (Txt.split t sp).map V.str, rfl, SqL.of upd_same, ?_⟩⟩
    -- what both cases share
    obtain ⟨L, hG, hL, hcase⟩ : ∃ L, Good L ∧ L.length ≤ 1000 ∧ ((Txt.split t sp = L.map word ∧ ∀ H' p, Same H H' → IsRun H' p L it → Q (.ref p) H') ∨
        ∃ b rest, Txt.split t sp = L.map word ++ b :: rest ∧ wordOk (tl b) = false ∧ b.length ≤ 100 ∧ ∀ H' d, Same H H' → H' d = some (.xd [(("index" : Str), .int (L.length : Int))]) → E (.ref T.c_BadStep) (some d) H') := by
      rcases hk with ⟨h, _⟩ | ⟨L, _, _, g, l, e, k⟩ | ⟨L, b, rest, _, g, l, e, hb, bl, k⟩
      · exact absurd h et
      · exact ⟨L, g, l, .inl ⟨e, k⟩⟩
      · exact ⟨L, g, l, .inr ⟨b, rest, e, hb, bl, k⟩⟩
    refine for_it walk_enum (fun i σ H' => i ≤ L.length ∧ H' W = some (.lst ((Txt.split t sp).map V.str)) ∧ Same H H' ∧ IsRun H' R (L.take i) it ∧ R ≠ W ∧ ∃ v3 v4 v5 v6, σ = [some (.str t), some (.str it), some (.ref R), v3, v4, v5, v6])
      ⟨Nat.zero_le _, upd_same, same_new (same_new (Same.refl H) nR) nW, ⟨[], kp nW upd_same, rfl, fun i q x h => by simp at h⟩, (fun e => by rw [← e, upd_same] at nW; cases nW), none, none, none, none, rfl⟩ (fun i σ H' _ z => SqL.of z.2.1) ?_ ?_
    · rintro i x σ H1 H' hi ⟨hiL, hW, sm, run, hRW, v3, v4, v5, v6, rfl⟩ ⟨Tp, x1, y, rfl, nT, rfl, e1, e2⟩
      cases e1
      have e2 : ((Txt.split t sp).map V.str)[i]? = some y := e2
      rw [List.getElem?_map] at e2
      obtain ⟨wd, hw, rfl⟩ : ∃ wd, (Txt.split t sp)[i]? = some wd ∧ y = V.str wd := by
        cases q : (Txt.split t sp)[i]? with
        | none =>
          rw [q] at e2
          cases e2
        | some wd =>
          rw [q] at e2
          exact ⟨wd, rfl, (Option.some.inj e2).symm⟩
      have smT := same_new (o := .tup [.int ((i : Nat) : Int), .str wd]) sm nT
      have s1 := same_new (o := .tup [.int ((i : Nat) : Int), .str wd]) (Same.refl H1) nT
      refine ⟨Tp, _, rfl, SqT.of upd_same, rfl, _, _, rfl, _, _, rfl, rfl, ?_⟩
      by_cases hlt : i < L.length
      · -- a good word
        have hwd : wd = word L[i] := by
          have e : (L.map word)[i]? = some (word L[i]) := by rw [List.getElem?_map, List.getElem?_eq_getElem hlt] <;> rfl
          rcases hcase with ⟨q, _⟩ | ⟨b, rest, q, _⟩
          · rw [q, e] at hw
            exact (Option.some.inj hw).symm
          · rw [q, List.getElem?_append_left (by rw [List.length_map]; exact hlt), e] at hw
            exact (Option.some.inj hw).symm
        obtain ⟨k, n, hx⟩ : ∃ k n, L[i] = (k, n) := ⟨L[i].1, L[i].2, rfl⟩
        have hLi : L[i]? = some (k, n) := by rw [List.getElem?_eq_getElem hlt, hx]
        obtain ⟨g1, g2⟩ := hG _ (List.mem_of_getElem? hLi)
        rw [hx] at hwd
        have etw : tl wd = k.sg :: numL n := by rw [hwd] <;> rfl
        have hwl32 : wd.length ≤ 32 := by rw [len_tl, etw]; exact word_len g2
        have hwl : wd.length ≤ sizeLine := by rw [sizeLine_eq]; omega
        have ex : (⟨(numL n).toArray⟩ : Str) = Str.ofString (toString ((n : Nat) : Int)) := ext_tl (by rw [tl_num])
        refine ⟨_, rfl, 1, rfl, wd, rfl, hwl, _, T.o_WORDS, WL, rfl, rfl, wdct T, _, rfl, ?_⟩
        rw [cut_one etw, look_sg]
        refine iteF ?_
        refine ⟨_, rfl, 1, rfl, wd, rfl, hwl, _, rfl, Nat.le_trans (cutS_length wd _ _) (by omega), fun H2 s2 => ⟨_, rfl, ?_⟩⟩
        rw [cut_rest etw, tl_mk, numOk_num g1 g2]
        refine iteF ?_
        refine ⟨_, rfl, wd, 0, k.sg, rfl, rfl, hwl, ?_, _, T.o_WORDS, WL, k.nm, rfl, rfl, wdct T, look_sg k, _, rfl, 1, rfl, wd, rfl, hwl, _, (n : Int), rfl, ?_, ?_, _, _, rfl, ?_⟩
        · have q := atI_nat (xs := tl wd) (j := 0) (v := k.sg) (by rw [etw] <;> rfl)
          exact q
        · rw [cut_rest etw, ex]
          exact int_num (by have := numL_len31 (n := n) g2; omega)
        · rw [cut_rest etw, ex, len_tl, tl_num]
          have := numL_len31 (n := n) g2
          omega
        have sm2 := smT.trans s2
        refine ⟨_, rfl, two, fun Tq nTq => ⟨Tq, _, rfl, .inr (SqT.of upd_same), rfl, rfl, _, rfl, ?_⟩⟩
        rw [if_neg Bool.false_ne_true, in_two]
        obtain ⟨qs, r1, r2, r3⟩ := run
        have ltk : (L.take i).length = i := by rw [List.length_take]; omega
        rw [ltk] at r2
        have s3 := (s1.trans s2).trans (same_new (o := .tup [.str "read", .str "write"]) (Same.refl H2) nTq)
        have stepE : ∀ (q : Addr) (H3 : Hp), Same H1 H3 → Same H H3 → H3 q = none → IsRun (upd (upd H3 q (.tup (stepV it (k, n)))) R (.lst (qs.map V.ref ++ [V.ref q]))) R (L.take (i + 1)) it := by
          intro q H3 sA sB nq
          refine ⟨qs ++ [q], ?_, ?_, ?_⟩
          · rw [upd_same, List.map_append]
            rfl
          · rw [List.length_append, r2, List.length_take]
            show i + 1 = _
            omega
          · intro j q' x' a1 a2
            have hR3 : H3 R = some (.lst (qs.map V.ref)) := sA _ _ r1
            by_cases hj : j < qs.length
            · rw [List.getElem?_append_left hj] at a1
              have a3 : (L.take i)[j]? = some x' := by
                rw [List.getElem?_take_of_lt (by omega)] at a2 ⊢
                exact a2
              have z := sA _ _ (r3 j q' x' a1 a3)
              rw [upd_ne (fun e => by rw [e, hR3] at z; cases z), upd_ne (ne_of_none z nq)]
              exact z
            · have hjl : j < (L.take (i + 1)).length := (List.getElem?_eq_some_iff.mp a2).1
              rw [List.length_take] at hjl
              have ej : j = i := by omega
              subst ej
              rw [List.getElem?_append_right (by omega), r2, Nat.sub_self] at a1
              cases a1
              rw [List.getElem?_take_of_lt (by omega), hLi] at a2
              cases a2
              rw [upd_ne (fun e => by rw [e, hR3] at nq; cases nq), upd_same]
        have fin : ∀ (q : Addr) (H3 : Hp) (v3 v4 v5 v6 : Option V), Same H1 H3 → Same H H3 → H3 q = none →
            (i + 1 ≤ L.length ∧ (upd (upd H3 q (.tup (stepV it (k, n)))) R (.lst (qs.map V.ref ++ [V.ref q]))) W = some (.lst ((Txt.split t sp).map V.str)) ∧ Same H (upd (upd H3 q (.tup (stepV it (k, n)))) R (.lst (qs.map V.ref ++ [V.ref q]))) ∧
              IsRun (upd (upd H3 q (.tup (stepV it (k, n)))) R (.lst (qs.map V.ref ++ [V.ref q]))) R (L.take (i + 1)) it ∧ R ≠ W ∧ ∃ u3 u4 u5 u6, [some (.str t), some (.str it), some (.ref R), v3, v4, v5, v6] = [some (.str t), some (.str it), some (.ref R), u3, u4, u5, u6]) := by
          intro q H3 v3 v4 v5 v6 sA sB nq
          refine ⟨by omega, ?_, ?_, stepE q H3 sA sB nq, hRW, _, _, _, _, rfl⟩
          · rw [upd_ne hRW.symm]
            exact kp nq (sA _ _ hW)
          · intro b o z
            rw [upd_ne (ne_of_none z nR)]
            exact kp nq (sB b o z)
        have lenR : ∀ {m : Nat}, m = qs.length → (qs.map V.ref).length < sizeLine := fun {m} _ => small1000 (by rw [List.length_map]; omega)
        cases hk : k.has with
        | true =>
          refine iteT ?_
          refine ⟨_, rfl, .inl ⟨rfl, _, SqL.of (s3 _ _ r1)⟩, _, rfl, _, rfl, _, rfl, three, fun q nq => ⟨R, _, _, rfl, rfl, kp nq (s3 _ _ r1), lenR rfl, ?_⟩⟩
          have ev : stepV it (k, n) = [.str k.nm, .int (n : Int), .str it] := by unfold stepV; rw [if_pos hk]
          have z := fin q _ (some (.int ((i : Nat) : Int))) (some (.str wd)) (some (.str k.nm)) (some (.int (n : Int))) s3 (sm.trans s3) nq
          rw [ev] at z
          exact z
        | false =>
          refine iteF ?_
          refine ⟨_, rfl, .inl ⟨rfl, _, SqL.of (s3 _ _ r1)⟩, _, rfl, _, rfl, two, fun q nq => ⟨R, _, _, rfl, rfl, kp nq (s3 _ _ r1), lenR rfl, ?_⟩⟩
          have ev : stepV it (k, n) = [.str k.nm, .int (n : Int)] := by unfold stepV; rw [if_neg (by show ¬ k.has = true; rw [hk]; exact Bool.false_ne_true)]
          have z := fin q _ (some (.int ((i : Nat) : Int))) (some (.str wd)) (some (.str k.nm)) (some (.int (n : Int))) s3 (sm.trans s3) nq
          rw [ev] at z
          exact z
      · -- the bad one
        have hieq : i = L.length := by omega
        rcases hcase with ⟨q, _⟩ | ⟨b, rest, q, hb, hbl, kE⟩
        · rw [q, List.getElem?_eq_none (by rw [List.length_map]; omega)] at hw
          cases hw
        have hwb : wd = b := by
          rw [q, List.getElem?_append_right (by rw [List.length_map]; omega), List.length_map, hieq, Nat.sub_self] at hw
          exact (Option.some.inj hw).symm
        subst hwb
        have hwl : wd.length ≤ sizeLine := by rw [sizeLine_eq]; omega
        have fin : ∀ (H2 : Hp), Same H H2 → ∀ a, H2 a = none → ∀ d, upd H2 a (exo a T.c_BadStep none) d = none → d ≠ a →
            E (.ref T.c_BadStep) (some d) (upd (del (upd (upd (upd H2 a (exo a T.c_BadStep none)) d (exd d [(("index" : Str), .int ((i : Nat) : Int))])) a (exo a T.c_BadStep (some d))) a) d (.xd [(("index" : Str), .int ((i : Nat) : Int))])) := by
          intro H2 s2 a ha d hd hne
          rw [raise_heap ha]
          rw [upd_ne hne] at hd
          subst hieq
          exact kE _ d (same_new s2 hd) upd_same
        have rais : ∀ (H2 : Hp) (σ2 : L2.St), Same H H2 → σ2[3]? = some (some (.int ((i : Nat) : Int))) → tMkO T.c_BadStep (spBad T.c_BadStep "index") [] (tCons (tVar 3) tNil) σ2 H2 (fun cls d H' => E cls d H') := by
          intro H2 σ2 s2 h3
          refine ⟨_, h3, by show 1 ≤ 1000; decide, fun a ha => ⟨a, i, rfl, upd_same, Nat.lt_of_le_of_lt (by omega : i ≤ 1000) big, fun d hd hne => ⟨rfl, d, [(("index" : Str), .int ((i : Nat) : Int))], upd_same, ?_, ?_, ?_⟩⟩⟩
          · rw [upd_ne hne, upd_same]
          · rw [upd_ne hne] at hd
            exact hd
          · exact fin H2 s2 a ha d hd hne
        refine ⟨_, rfl, 1, rfl, wd, rfl, hwl, _, T.o_WORDS, WL, rfl, rfl, wdct T, _, rfl, ?_⟩
        cases hq : tl wd with
        | nil =>
          rw [cut_nil hq, look_nil]
          refine iteT ?_
          refine iteT ?_
          exact rais _ _ smT rfl
        | cons c d =>
          rw [cut_one hq, look_isSome]
          rw [hq] at hb
          have hb' : (sgOk c && numOk d) = false := hb
          cases hs : sgOk c with
          | false =>
            refine iteT ?_
            refine iteT ?_
            exact rais _ _ smT rfl
          | true =>
            refine iteF ?_
            rw [hs, Bool.true_and] at hb'
            refine ⟨_, rfl, 1, rfl, wd, rfl, hwl, _, rfl, Nat.le_trans (cutS_length wd _ _) (by omega), fun H2 s2 => ⟨_, rfl, ?_⟩⟩
            rw [cut_rest hq, tl_mk, hb']
            refine iteT ?_
            exact rais _ _ (smT.trans s2) rfl
    · rintro σ H' ⟨hiL, hW, sm, run, hRW, v3, v4, v5, v6, rfl⟩
      refine ⟨_, rfl, ?_⟩
      rcases hcase with ⟨e, k⟩ | ⟨b, rest, e, _⟩
      · rw [e, List.length_map, List.length_map, List.take_length] at run
        exact k H' R sm run
      · rw [e] at hiL
        simp at hiL
        omega
end
end K09

namespace K09
open PySem L2 SI CM TX TL
section
variable {w : World} {K : PySem.W.Frag} {mg : Str → Option Value} {base : Heap} (T : Txt w K mg)
def spCell (K : PySem.W.Frag) : Sp := fun vs H Q _ => ∃ (a : Addr) (ns : List Int) (k : Nat), vs = [.ref a, .int (k : Int)] ∧ SqL K H a (ns.map V.int) ∧ ns.length ≤ 63 ∧ Q (.int (ns.getD k 0)) H
theorem ok_cell : FnOk PP w K mg base CX0 1 T.f_law_cell T.d_law_cell ["_law_script", "_law_k"] (spCell K) := by
  refine T.F_law_cell.ok sc_law_cell (fun vs H Q E h => ?_) (fun cdv A outer s H vs Q E hr h => ?_)
  · obtain ⟨a, ns, k, rfl, _⟩ := h
    rfl
  · obtain ⟨a, ns, i, rfl, hS, hlen, k⟩ := h
    refine ⟨_, pss_cons (ps_if (pt_cmpR op_lt (pv 1) (pe_callB call_len_seq (by rfl) T.n_len PySem.boot_len (pa_cons (pv 0) pa_nil)) (nomark _)) (pss_one (ps_ret (pe_ix ix_list (pv 0) (pv 1) (fun _ _ => rfl)))) pss_nil) (pss_one (ps_ret pe_int)), ?_⟩
    refine ⟨_, rfl, _, rfl, a, _, rfl, .inl hS, _, _, rfl, rfl, _, rfl, ?_⟩
    rw [List.length_map]
    by_cases h : (i : Int) < (ns.length : Int)
    · rw [decide_eq_true h]
      have hi : i < ns.length := by omega
      refine iteT ⟨_, rfl, _, rfl, a, _, _, .int (ns.getD i 0), rfl, rfl, hS, atI_nat (by rw [List.getElem?_map, List.getElem?_eq_getElem hi, List.getD_eq_getElem?_getD, List.getElem?_eq_getElem hi] <;> rfl), k⟩
    · rw [decide_eq_false h]
      have hi : ns.length ≤ i := by omega
      refine iteF ?_
      rw [List.getD_eq_getElem?_getD, List.getElem?_eq_none hi] at k
      exact k
/-- xs[i] of a list of ints -/
theorem ints_at {ds : List Int} {i : Nat} {x : V} (h : (ds.map V.int)[i]? = some x) : ∃ d, ds[i]? = some d ∧ x = V.int d := by
  rw [List.getElem?_map] at h
  cases q : ds[i]? with
  | none =>
    rw [q] at h
    cases h
  | some d =>
    rw [q] at h
    exact ⟨d, rfl, (Option.some.inj h).symm⟩
def spRow : Sp := fun vs H Q _ => ∃ (c : Int) (n : Nat) (b : Int), vs = [.int c, .int (n : Int), .int b] ∧ 0 < b ∧ b < 1000 ∧ n ≤ 1000 ∧
  ∀ (H' : Hp) (p : Addr) (ds : List Int), Same H H' → H p = none → H' p = some (.lst (ds.map V.int)) → ds.length = n → (∀ d ∈ ds, 0 ≤ d ∧ d < b) → Q (.ref p) H'
theorem ok_row : FnOk PP w K mg base CX0 1 T.f_law_row T.d_law_row ["_law_cell_here", "_law_count", "_law_base"] spRow := by
  refine T.F_law_row.ok sc_law_row (fun vs H Q E h => ?_) (fun cdv A outer s H vs Q E hr h => ?_)
  · obtain ⟨c, n, b, rfl, _⟩ := h
    rfl
  · obtain ⟨c, n, b, rfl, b0, b1, hn, k⟩ := h
    refine ⟨_, pss_cons (ps_set (i := 3) sc_law_row.nd rfl (.inl rfl) (pe_lst pa_nil))
 (pss_cons (ps_set (i := 4) sc_law_row.nd rfl (.inl rfl) (pv 0))
 (pss_cons (ps_set (i := 5) sc_law_row.nd rfl (.inl rfl) (pe_op op_mod (pe_callTy call_int1 (by rfl) T.n_int (by decide +kernel) (pa_cons (pe_op op_add (pe_op op_mul (pv 0) pe_int) pe_int) pa_nil)) pe_int))
 (pss_cons (ps_for PassesOwn.never rfl (pi_range1 rfl T.n_range (pa_cons (pv 1) pa_nil)) (pg_name (i := 6) sc_law_row.nd rfl (.inl rfl))
 (pss_one (ps_if (pt_cmpR op_ge (pv 0) (pe_op op_pow pe_int pe_int) (nomark _))
 (pss_cons (ps_expr (pe_bm PySem.F.plainAttrs_list PySem.F.slot_list_append PySem.F.type_list_append mt_append (pv 3) (pa_cons (pe_op op_mod (pe_callTy call_int1 (by rfl) T.n_int (by decide +kernel) (pa_cons (pv 4) pa_nil)) (pv 2)) pa_nil)))
 (pss_one (ps_set (i := 4) sc_law_row.nd rfl (.inl rfl) (pe_op op_fdiv (pv 4) (pv 2)))))
 (pss_cons (ps_set (i := 5) sc_law_row.nd rfl (.inl rfl) (pe_op op_mod (pe_callTy call_int1 (by rfl) T.n_int (by decide +kernel) (pa_cons (pe_op op_add (pe_op op_mul (pv 5) pe_int) pe_int) pa_nil)) pe_int))
 (pss_cons (ps_set (i := 5) sc_law_row.nd rfl (.inl rfl) (pe_op op_mod (pe_callTy call_int1 (by rfl) T.n_int (by decide +kernel) (pa_cons (pe_op op_add (pe_op op_mul (pv 5) pe_int) (pv 6)) pa_nil)) pe_int))
 (pss_one (ps_expr (pe_bm PySem.F.plainAttrs_list PySem.F.slot_list_append PySem.F.type_list_append mt_append (pv 3) (pa_cons (pe_op op_mod (pe_callTy call_int1 (by rfl) T.n_int (by decide +kernel) (pa_cons (pe_op op_fdiv (pv 5) pe_int) pa_nil)) (pv 2)) pa_nil)))))))))
 (pss_one (ps_ret (pv 3)))))), ?_⟩
    have m1 : (0 : Int) < 2147483647 := by decide
    have m2 : (0 : Int) < 2147483629 := by decide
    refine ⟨Nat.zero_le _, fun R nR => ⟨_, rfl, _, rfl, _, _, rfl, rfl, .inr ⟨by decide, by decide⟩, _, _, rfl, rfl, .inl ⟨_, rfl, _, _, rfl, rfl, m1, ?_⟩⟩⟩
    refine ⟨_, rfl, _, rfl, by omega, by omega, for_range (lo := 0) (n := n) (fun i σ H' => ∃ (ds : List Int) (v4 v5 : Int) (v6 : Option V), ds.length = i ∧ (∀ d ∈ ds, 0 ≤ d ∧ d < b) ∧ H' R = some (.lst (ds.map V.int)) ∧ Same H H' ∧ σ = [some (.int c), some (.int (n : Int)), some (.int b), some (.ref R), some (.int v4), some (.int v5), v6])
      ⟨[], c, _, _, rfl, (fun _ h => by cases h), upd_same, same_new (Same.refl H) nR, rfl⟩ ?_ ?_⟩
    · rintro i σ H' hi ⟨ds, v4, v5, v6, hl, hd, hR, sm, rfl⟩
      have stp : ∀ (d : Int), 0 ≤ d → d < b → (∀ x ∈ ds ++ [d], 0 ≤ x ∧ x < b) ∧ (upd H' R (.lst (ds.map V.int ++ [.int d]))) R = some (.lst ((ds ++ [d]).map V.int)) ∧ Same H (upd H' R (.lst (ds.map V.int ++ [.int d]))) := by
        intro d d0 d1
        refine ⟨fun x hx => ?_, ?_, fun bb o z => ?_⟩
        · rcases List.mem_append.mp hx with h | h
          · exact hd x h
          · rw [List.mem_singleton.mp h]
            exact ⟨d0, d1⟩
        · rw [upd_same, List.map_append]
          rfl
        · rw [upd_ne (ne_of_none z nR)]
          exact sm bb o z
      have lenR : (ds.map V.int).length < sizeLine := small1000 (by rw [List.length_map]; omega)
      have e0 := fun x : Int => Int.emod_nonneg x (Int.ne_of_gt b0)
      have e1 := fun x : Int => Int.emod_lt_of_pos x b0
      refine ⟨_, rfl, _, _, rfl, rfl, ⟨by decide, by decide, by decide⟩, _, _, rfl, rfl, _, rfl, ?_⟩
      refine ite2 (fun _ => ?_) (fun _ => ?_)
      · obtain ⟨s1, s2, s3⟩ := stp (v4 % b) (e0 _) (e1 _)
        exact ⟨_, rfl, .inl ⟨rfl, _, SqL.of hR⟩, _, rfl, .inl ⟨_, rfl, _, rfl, _, _, rfl, rfl, b0, R, _, _, rfl, rfl, hR, lenR, _, rfl, _, rfl, _, _, rfl, rfl, ⟨b0, by omega⟩, ds ++ [v4 % b], _, _, _, by simp [hl], s1, s2, s3, rfl⟩⟩
      · refine ⟨_, rfl, _, _, rfl, rfl, .inr ⟨by decide, by decide⟩, _, _, rfl, rfl, .inl ⟨_, rfl, _, _, rfl, rfl, m1, ?_⟩⟩
        refine ⟨_, rfl, _, _, rfl, rfl, .inr ⟨by decide, by decide⟩, _, rfl, _, _, rfl, rfl, .inl ⟨_, rfl, _, _, rfl, rfl, m2, ?_⟩⟩
        refine ⟨_, rfl, .inl ⟨rfl, _, SqL.of hR⟩, _, rfl, _, _, rfl, rfl, ⟨by decide, by decide⟩, .inl ⟨_, rfl, _, rfl, _, _, rfl, rfl, b0, R, _, _, rfl, rfl, hR, lenR, ?_⟩⟩
        exact ⟨ds ++ [_], _, _, _, by simp [hl], (stp _ (e0 _) (e1 _)).1, (stp _ (e0 _) (e1 _)).2.1, (stp _ (e0 _) (e1 _)).2.2, rfl⟩
    · rintro σ H' ⟨ds, v4, v5, v6, hl, hd, hR, sm, rfl⟩
      exact ⟨_, rfl, k H' R ds sm nR hR hl hd⟩
end
end K09

namespace K09
open PySem L2 SI CM TX TL
section
variable {w : World} {K : PySem.W.Frag} {mg : Str → Option Value} {base : Heap} (T : Txt w K mg)
abbrev VN (m : Nat) : V := .int (m : Int)
def spMarks : Sp := fun vs H Q _ => ∃ (c : Int) (n : Nat), vs = [.int c, .int (n : Int)] ∧ n ≤ 5 ∧
  ∀ (H' : Hp) (p : Addr) (ms : List Nat), Same H H' → H p = none → H' p = some (.lst (ms.map VN)) → ms.length = n → (∀ m ∈ ms, 1 ≤ m ∧ m ≤ topN) → Q (.ref p) H'
def gaps : List Nat := [1, 1, 2, 7, 93, 10 ^ 12, 10 ^ 28]
theorem gap_in {g : Nat} (h : g ∈ gaps) : 1 ≤ g ∧ g ≤ 10 ^ 28 := by
  simp only [gaps, List.mem_cons, List.not_mem_nil, or_false] at h
  rcases h with rfl | rfl | rfl | rfl | rfl | rfl | rfl
  all_goals exact ⟨by decide, by decide⟩
theorem ok_marks : FnOk PP w K mg base CX0 2 T.f_law_marks T.d_law_marks ["_law_cell_here", "_law_many"] spMarks := by
  refine T.F_law_marks.ok sc_law_marks (fun vs H Q E h => ?_) (fun cdv A outer s H vs Q E hr h => ?_)
  · obtain ⟨c, n, rfl, _⟩ := h
    rfl
  · obtain ⟨c, n, rfl, hn, k⟩ := h
    refine ⟨_, pss_cons (ps_set (i := 2) sc_law_marks.nd rfl (.inl rfl) (pe_lst (pa_cons pe_int (pa_cons pe_int (pa_cons pe_int (pa_cons pe_int (pa_cons pe_int (pa_cons (pe_op op_pow pe_int pe_int) (pa_cons (pe_op op_pow pe_int pe_int) pa_nil)))))))))
 (pss_cons (ps_set (i := 3) sc_law_marks.nd rfl (.inl rfl) (pe_lst pa_nil))
 (pss_cons (ps_set (i := 4) sc_law_marks.nd rfl (.inl rfl) pe_int)
 (pss_cons (ps_for PassesOwn.never rfl (pi_list (pe_call (ok_row T) (hr.mono (by decide)) (by rfl) T.g_law_row T.F_law_row.kp (b_law_row T) .nil pass0 (pa_cons (pv 0) (pa_cons (pv 1) (pa_cons pe_int pa_nil))))) (pg_name (i := 5) sc_law_marks.nd rfl (.inl rfl))
 (pss_cons (ps_set (i := 4) sc_law_marks.nd rfl (.inl rfl) (pe_op op_add (pv 4) (pe_ix ix_list (pv 2) (pv 5) (fun _ _ => rfl))))
 (pss_one (ps_expr (pe_bm PySem.F.plainAttrs_list PySem.F.slot_list_append PySem.F.type_list_append mt_append (pv 3) (pa_cons (pv 4) pa_nil))))))
 (pss_one (ps_ret (pv 3)))))), ?_⟩
    refine ⟨_, _, rfl, rfl, ⟨by decide, by decide, by decide⟩, _, _, rfl, rfl, ⟨by decide, by decide, by decide⟩, by show 7 ≤ sizeLine; decide, fun G nG => ⟨Nat.zero_le _, fun M nM => ?_⟩⟩
    have hG0 : (upd H G (.lst [.int 1, .int 1, .int 2, .int 7, .int 93, .int ((10 : Int) ^ (12 : Int).toNat), .int ((10 : Int) ^ (28 : Int).toNat)])) G = some (.lst (gaps.map VN)) := by
      rw [upd_same]
      rfl
    have hM0 : H M = none := (same_new (Same.refl H) nG).free nM
    refine ⟨_, rfl, _, rfl, c, n, 7, rfl, by decide, by decide, by omega, fun H2 p ds s2 np hp hl hd => ?_⟩
    have hMp : M ≠ p := fun e => by rw [← e, upd_same] at np; cases np
    have hMG : M ≠ G := fun e => by rw [e, upd_same] at nM; cases nM
    have sm2 : Same H H2 := (same_new (same_new (Same.refl H) nG) nM).trans s2
    refine ⟨p, rfl, ⟨_, SqL.of hp⟩, for_list (K := K) (a := p) (xs := ds.map V.int) (fun i σ H' => ∃ (ms : List Nat) (mk : Nat) (v5 : Option V), ms.length = i ∧ (∀ m ∈ ms, 1 ≤ m ∧ m ≤ topN) ∧ mk ≤ i * 10 ^ 28 ∧ H' p = some (.lst (ds.map V.int)) ∧ H' G = some (.lst (gaps.map VN)) ∧ H' M = some (.lst (ms.map VN)) ∧ Same H H' ∧
      σ = [some (.int c), some (.int (n : Int)), some (.ref G), some (.ref M), some (VN mk), v5])
      ⟨[], 0, none, rfl, (fun _ h => by cases h), Nat.zero_le _, hp, s2 _ _ (kp nM hG0), s2 _ _ upd_same, sm2, rfl⟩ (fun i σ H' _ ⟨_, _, _, _, _, _, z, _⟩ => SqL.of z) ?_ ?_⟩
    · rintro i x σ H' hi ⟨ms, mk, v5, h1, h2, h3, h4, h5, h6, sm, rfl⟩
      obtain ⟨d, hd1, rfl⟩ := ints_at hi
      obtain ⟨d0, d7⟩ := hd d (List.mem_of_getElem? hd1)
      obtain ⟨j, rfl⟩ := Int.eq_ofNat_of_zero_le d0
      have hj : j < gaps.length := by show j < 7; omega
      have hi5 : i < 5 := by
        have := (List.getElem?_eq_some_iff.mp hd1).1
        omega
      obtain ⟨g1, g2⟩ := gap_in (List.getElem_mem hj)
      have hat : (gaps.map VN)[j]? = some (VN gaps[j]) := by rw [List.getElem?_map, List.getElem?_eq_getElem hj] <;> rfl
      refine ⟨_, rfl, _, rfl, _, rfl, G, _, _, _, rfl, rfl, SqL.of h5, atI_nat hat, _, _, rfl, rfl, ?_⟩
      have hb : mk + gaps[j] ≤ (i + 1) * 10 ^ 28 := by
        have e : (i + 1) * 10 ^ 28 = i * 10 ^ 28 + 10 ^ 28 := by rw [Nat.add_mul, Nat.one_mul]
        omega
      have hb2 : mk + gaps[j] ≤ topN := by
        have e : (i + 1) * 10 ^ 28 ≤ 5 * 10 ^ 28 := Nat.mul_le_mul_right _ (by omega)
        have e2 : 5 * 10 ^ 28 ≤ topN := by decide
        omega
      refine ⟨_, rfl, .inl ⟨rfl, _, SqL.of h6⟩, _, rfl, M, _, _, rfl, rfl, h6, small1000 (by rw [List.length_map]; omega), ms ++ [mk + gaps[j]], mk + gaps[j], _, by simp [h1], fun m hm => ?_, hb, ?_, ?_, ?_, ?_, rfl⟩
      · rcases List.mem_append.mp hm with h | h
        · exact h2 m h
        · rw [List.mem_singleton.mp h]
          exact ⟨by omega, hb2⟩
      · rw [upd_ne hMp.symm]
        exact h4
      · rw [upd_ne hMG.symm]
        exact h5
      · rw [upd_same, List.map_append]
        rfl
      · intro b o z
        rw [upd_ne (ne_of_none z hM0)]
        exact sm b o z
    · rintro σ H' ⟨ms, mk, v5, h1, h2, h3, h4, h5, h6, sm, rfl⟩
      exact ⟨_, rfl, k H' M ms sm hM0 h6 (by rw [h1, List.length_map, hl]) h2⟩
end
end K09

namespace K09
open PySem L2 SI CM TX TL
section
variable {w : World} {K : PySem.W.Frag} {mg : Str → Option Value} {base : Heap} (T : Txt w K mg)
theorem joinS_len {S : List Nat} {c : Nat} : ∀ {ps : List (List Nat)}, (∀ p ∈ ps, p.length ≤ c) → (joinL S ps).length ≤ ps.length * (c + S.length)
  | [], _ => Nat.zero_le _
  | [p], h => by
    have := h p (List.mem_singleton.mpr rfl)
    show p.length ≤ 1 * (c + S.length)
    omega
  | p :: q :: r, h => by
    have h1 := h p (List.mem_cons_self ..)
    have h2 := joinS_len (S := S) (ps := q :: r) fun z hz => h z (List.mem_cons_of_mem _ hz)
    show (p ++ (S ++ joinL S (q :: r))).length ≤ (r.length + 1 + 1) * (c + S.length)
    rw [List.length_append, List.length_append]
    have e : (r.length + 1 + 1) * (c + S.length) = (r.length + 1) * (c + S.length) + (c + S.length) := by rw [Nat.add_mul (r.length + 1), Nat.one_mul]
    have h3 : ((q :: r).length) * (c + S.length) = (r.length + 1) * (c + S.length) := rfl
    rw [h3] at h2
    omega
theorem joinS_mem {S : List Nat} {c : Nat} : ∀ {ps : List (List Nat)}, c ∈ joinL S ps → c ∈ S ∨ ∃ p ∈ ps, c ∈ p
  | [], h => by cases h
  | [p], h => .inr ⟨p, List.mem_singleton.mpr rfl, h⟩
  | p :: q :: r, h => by
    have h' : c ∈ p ++ (S ++ joinL S (q :: r)) := h
    rcases List.mem_append.mp h' with h | h
    · exact .inr ⟨p, List.mem_cons_self .., h⟩
    rcases List.mem_append.mp h with h | h
    · exact .inl h
    · rcases joinS_mem h with h | ⟨z, hz, h⟩
      · exact .inl h
      · exact .inr ⟨z, List.mem_cons_of_mem _ hz, h⟩
theorem strOk_of {x : Str} (h : ∀ c ∈ tl x, c < 0x110000) : PyData.strOk x = true := by
  unfold PyData.strOk
  rw [← Array.all_toList, List.all_eq_true]
  intro c hc
  exact decide_eq_true (h c hc)
abbrev SG : Str := "abcdefghijklmnopqrstuvwxyz0123456789"
theorem sg_small : ∀ c ∈ tl SG, c < 0x110000 := by decide +kernel
theorem sg_len : (tl SG).length = 36 := by decide +kernel
def spNames : Sp := fun vs H Q _ => ∃ c : Int, vs = [.int c] ∧ ∀ (H' : Hp) (p : Addr) (a b : Str), Same H H' → H' p = some (.lst [.str a, .str b]) → PyData.strOk a = true → Q (.ref p) H'
theorem ok_names : FnOk PP w K mg base CX0 2 T.f_law_names T.d_law_names ["_law_cell_here"] spNames := by
  refine T.F_law_names.ok sc_law_names (fun vs H Q E h => ?_) (fun cdv A outer s H vs Q E hr h => ?_)
  · obtain ⟨c, rfl, _⟩ := h
    rfl
  · obtain ⟨c, rfl, k⟩ := h
    refine ⟨_, pss_cons (ps_set (i := 1) sc_law_names.nd rfl (.inr rfl) pe_str)
 (pss_cons (ps_set (i := 2) sc_law_names.nd rfl (.inl rfl) (pe_call (ok_row T) (hr.mono (by decide)) (by rfl) T.g_law_row T.F_law_row.kp (b_law_row T) .nil pass0 (pa_cons (pv 0) (pa_cons pe_int (pa_cons pe_int pa_nil)))))
 (pss_cons (ps_set (i := 4) sc_law_names.nd rfl (.inl rfl) (pe_join pe_str (pe_lc (own := [("_law_k", 3)]) (g := gName 3) (tt := tYes) (by rfl) sc_law_names.nd (pi_list (pe_slice sl_list (pv 2) po_none (po_some (pe_op op_add pe_int (pe_op op_mod (pe_callTy call_int1 (by rfl) T.n_int (by decide +kernel) (pa_cons (pv 0) pa_nil)) pe_int))))) (blkOk_by (N := ["_law_cell_here", "_law_signs", "_law_draws", "_law_k", "_law_first"]) (sc := defScope s_law_names) (by decide +kernel)) (fun _ _ _ _ _ => pg_name (i := 3) sc_law_names.nd rfl (Or.inl rfl)) (fun _ _ _ _ _ => pts_nil) (fun _ _ _ _ _ => (pe_ix ix_str (pv 1) (pv 3) (fun _ _ => rfl))))))
 (pss_one (ps_ret (pe_lst (pa_cons (pv 4) (pa_cons (pe_op op_add_str (pv 4) (pe_ix ix_str (pv 1) (pe_ix ix_list (pv 2) pe_int (fun _ _ => rfl)) (fun _ _ => rfl))) pa_nil))))))), ?_⟩
    have p7 : (0 : Int) < 7 := by decide
    have two : 2 ≤ sizeLine := by decide
    have sgl : SG.length ≤ sizeLine := by rw [len_tl, sg_len]; decide
    refine ⟨_, rfl, c, 9, 36, rfl, by decide, by decide, by decide, fun H1 p ds s1 np hp hl hd => ?_⟩
    have at_ : ∀ d : Int, d ∈ ds → ∃ ch, atI (tl SG) d = some ch ∧ ch ∈ tl SG := by
      intro d hm
      obtain ⟨d0, d1⟩ := hd d hm
      obtain ⟨j, rfl⟩ := Int.eq_ofNat_of_zero_le d0
      have hj : j < (tl SG).length := by rw [sg_len]; omega
      exact ⟨_, atI_nat (List.getElem?_eq_getElem hj), List.getElem_mem hj⟩
    refine ⟨⟨_, rfl⟩, _, rfl, _, rfl, .inl ⟨_, rfl, _, _, rfl, rfl, p7, _, _, rfl, rfl, _, rfl, p, _, rfl, SqL.of hp, fun S nS => ?_⟩⟩
    refine ⟨S, rfl, ⟨_, SqL.of upd_same⟩, fun D nD => lc_list (K := K) (a := S) (xs := cutV (ds.map V.int) none (some (1 + c % 7)))
      (fun i H' => H' S = some (.lst (cutV (ds.map V.int) none (some (1 + c % 7)))) ∧ Same H1 H' ∧ ∃ ys : List Str, ys.length = i ∧ (∀ y ∈ ys, y.length ≤ 1 ∧ ∀ z ∈ tl y, z ∈ tl SG) ∧ H' D = some (.lst (ys.map V.str)))
      ⟨kp nD upd_same, same_new (same_new (Same.refl H1) nS) nD, [], rfl, (fun _ h => by cases h), upd_same⟩ (fun i H' _ z => SqL.of z.1) ?_ ?_⟩
    · rintro i x H' hi ⟨hS, sm, ys, hy, hy1, hD⟩
      have hx : x ∈ ds.map V.int := List.mem_of_mem_drop (List.mem_of_mem_take (List.mem_of_getElem? hi))
      obtain ⟨d, hdm, rfl⟩ := List.mem_map.mp hx
      obtain ⟨ch, hch, hcm⟩ := at_ d hdm
      have hlt : i < (cutV (ds.map V.int) none (some (1 + c % 7))).length := (List.getElem?_eq_some_iff.mp hi).1
      have hle := cutV_length (ds.map V.int) none (some (1 + c % 7))
      rw [List.length_map, hl] at hle
      refine ⟨rfl, ?_⟩
      refine ⟨_, rfl, _, rfl, SG, d, ch, rfl, rfl, sgl, hch, _, hD, small1000 (by rw [List.length_map]; omega), ?_, ?_, ys ++ [⟨#[ch]⟩], by simp [hy], fun y hm => ?_, ?_⟩
      · rw [upd_ne (fun e => by rw [← e, upd_same] at nD; cases nD)]
        exact hS
      · intro b o z
        have hb : b ≠ D := ne_of_none (kp nS z) nD
        rw [upd_ne hb]
        exact sm b o z
      · rcases List.mem_append.mp hm with h | h
        · exact hy1 y h
        · rw [List.mem_singleton.mp h]
          refine ⟨Nat.le_refl 1, fun z hz => ?_⟩
          have hz' : z ∈ [ch] := hz
          rw [List.mem_singleton.mp hz']
          exact hcm
      · rw [upd_same, List.map_append]
        rfl
    · rintro H' ⟨hS, sm, ys, hy, hy1, hD⟩
      have hle := cutV_length (ds.map V.int) none (some (1 + c % 7))
      rw [List.length_map, hl] at hle
      have hy0 : ∀ y ∈ ys, y.length ≤ 1 := fun y h => (hy1 y h).1
      have hsum := sum_len hy0
      refine ⟨Str.ofString "", D, ys, rfl, rfl, .inl (SqL.of hD), ?_, ?_⟩
      · have e : (Str.ofString "").length = 0 := by decide +kernel
        rw [e]
        omega
      have hfl : (Txt.join (Str.ofString "") ys).length ≤ 9 := by
        rw [len_tl, join_eq, tl_join]
        have z := joinS_len (S := tl (Str.ofString "")) (c := 1) (ps := ys.map tl) fun q hq => by
          obtain ⟨y, hm, rfl⟩ := List.mem_map.mp hq
          rw [← len_tl]
          exact hy0 y hm
        have e : (tl (Str.ofString "")).length = 0 := by decide +kernel
        rw [List.length_map, e] at z
        omega
      have h8 : (8 : Nat) < ds.length := by omega
      have hat : (ds.map V.int)[8]? = some (.int ds[8]) := by rw [List.getElem?_map, List.getElem?_eq_getElem h8] <;> rfl
      obtain ⟨ch, hch, hcm⟩ := at_ ds[8] (List.getElem_mem h8)
      refine ⟨_, rfl, _, rfl, _, rfl, _, rfl, p, _, _, _, rfl, rfl, SqL.of (sm _ _ hp), atI_nat (j := 8) hat, SG, _, ch, rfl, rfl, sgl, hch, _, _, rfl, rfl, ?_, two, fun L nL => ?_⟩
      · have e : (⟨#[ch]⟩ : Str).length = 1 := rfl
        rw [e, sizeLine_eq]
        omega
      refine k _ L _ _ ((s1.trans sm).trans (same_new (Same.refl H') nL)) upd_same (strOk_of fun z hz => ?_)
      rw [join_eq, tl_join] at hz
      rcases joinS_mem hz with h | ⟨q, hq, h⟩
      · have e : tl (Str.ofString "") = [] := by decide +kernel
        rw [e] at h
        cases h
      · obtain ⟨y, hm, rfl⟩ := List.mem_map.mp hq
        exact sg_small z ((hy1 y hm).2 z h)
def spOne : Sp := fun vs H Q _ => ∃ (c k b : Int), vs = [.int c, .int k, .int b] ∧ 0 < b ∧ b < 1000 ∧ ∀ (H' : Hp) (d : Int), Same H H' → Q (.int d) H'
theorem ok_one : FnOk PP w K mg base CX0 2 T.f_law_one T.d_law_one ["_law_cell_here", "_law_k", "_law_base"] spOne := by
  refine T.F_law_one.ok sc_law_one (fun vs H Q E h => ?_) (fun cdv A outer s H vs Q E hr h => ?_)
  · obtain ⟨c, k, b, rfl, _⟩ := h
    rfl
  · obtain ⟨c, n, b, rfl, b0, b1, k⟩ := h
    refine ⟨_, pss_cons (ps_if (pt_cmpR op_ge (pv 0) (pe_op op_pow pe_int pe_int) (nomark _))
 (pss_one (ps_ret (pe_op op_mod (pe_callTy call_int1 (by rfl) T.n_int (by decide +kernel) (pa_cons (pv 0) pa_nil)) (pv 2))))
 pss_nil)
 (pss_one (ps_ret (pe_ix ix_list (pe_call (ok_row T) (hr.mono (by decide)) (by rfl) T.g_law_row T.F_law_row.kp (b_law_row T) .nil pass0 (pa_cons (pe_op op_add (pe_op op_mul (pv 0) pe_int) (pv 1)) (pa_cons pe_int (pa_cons (pv 2) pa_nil)))) pe_int (fun _ _ => rfl)))), ?_⟩
    refine ⟨_, rfl, _, _, rfl, rfl, ⟨by decide, by decide, by decide⟩, _, _, rfl, rfl, _, rfl, ?_⟩
    refine ite2 (fun _ => ?_) (fun _ => ?_)
    · exact ⟨_, rfl, .inl ⟨_, rfl, _, rfl, _, _, rfl, rfl, b0, k H _ (Same.refl H)⟩⟩
    · refine ⟨_, rfl, _, _, rfl, rfl, .inr ⟨by decide, by decide⟩, _, rfl, _, _, rfl, rfl, _, rfl, _, 1, b, rfl, b0, b1, by decide, fun H1 p ds s1 np hp hl hd => ?_⟩
      have h0 : (0 : Nat) < ds.length := by omega
      have hat : (ds.map V.int)[0]? = some (.int ds[0]) := by rw [List.getElem?_map, List.getElem?_eq_getElem h0] <;> rfl
      exact ⟨p, _, _, _, rfl, rfl, SqL.of hp, atI_nat (j := 0) hat, k H1 _ s1⟩
def dataS (it : Str) (p : Kd × Nat) : PyData := if p.1.has = true then .tuple [.str p.1.nm, .int (p.2 : Int), .str it] else .tuple [.str p.1.nm, .int (p.2 : Int)]
theorem Kd.ok (k : Kd) : PyData.strOk k.nm = true := by cases k <;> decide +kernel
theorem dataS_shaped {it : Str} (hi : PyData.strOk it = true) (p : Kd × Nat) : SeqAt.shaped (dataS it p) = true := by
  unfold dataS
  cases p.1.has <;> simp [SeqAt.shaped, PyData.canLay0, PyData.canLayAll0, PyData.depth, PyData.depthAll, Kd.ok, hi]
theorem dataS_eqv {it : Str} (hi : PyData.strOk it = true) (p : Kd × Nat) : PyData.eqv (dataS it p) (dataS it p) = true := by
  exact SeqAt.eqv_refl _ (SeqAt.canLay_of_shaped (dataS_shaped hi p))
theorem dataS_dp {H : Hp} {q : Addr} {it : Str} {p : Kd × Nat} (h : H q = some (.tup (stepV it p))) : Dp K H (.ref q) (dataS it p) := by
  unfold stepV at h
  unfold dataS
  cases e : p.1.has with
  | true =>
    rw [e] at h
    exact .tup (SqT.of h) (.cons (.str _) (.cons (.int _) (.cons (.str _) .nil)))
  | false =>
    rw [e] at h
    exact .tup (SqT.of h) (.cons (.str _) (.cons (.int _) .nil))
theorem stepV_len (it : Str) (p : Kd × Nat) : (stepV it p).length ≤ 3 := by
  unfold stepV
  cases p.1.has <;> simp
theorem stepV_1 (it : Str) (p : Kd × Nat) : (stepV it p)[1]? = some (.int (p.2 : Int)) := by
  unfold stepV
  cases p.1.has <;> rfl
def spSame : Sp := fun vs H Q _ => ∃ (p q : Addr) (L : List (Kd × Nat)) (it : Str), vs = [.ref p, .ref q] ∧ L.length ≤ 1000 ∧ PyData.strOk it = true ∧ IsRun H p L it ∧ IsRun H q L it ∧ Q (.bl true) H
theorem ok_same : FnOk PP w K mg base CX0 1 T.f_law_same T.d_law_same ["_law_actual", "_law_run"] spSame := by
  refine T.F_law_same.ok sc_law_same (fun vs H Q E h => ?_) (fun cdv A outer s H vs Q E hr h => ?_)
  · obtain ⟨p, q, L, it, rfl, _⟩ := h
    rfl
  · obtain ⟨p, q, L, it, rfl, hL, hok, rp, rq, k⟩ := h
    refine ⟨_, pss_cons (ps_if (PW.pt (pw_or (pt_not (pt_val (pe_callB call_isi (by rfl) T.n_isinstance (by decide +kernel) (pa_cons (pv 0) (pa_cons (pe_bltn (v := .ty "list") (by rfl) T.n_list (by decide +kernel) rfl) pa_nil))))) (pw_or1 (pt_cmpR op_ne (pe_callB call_len_seq (by rfl) T.n_len PySem.boot_len (pa_cons (pv 0) pa_nil)) (pe_callB call_len_seq (by rfl) T.n_len PySem.boot_len (pa_cons (pv 1) pa_nil)) (nomark _)))))
 (pss_one (ps_ret pe_bl))
 pss_nil)
 (pss_cons (ps_for PassesOwn.never rfl (pi_range1 rfl T.n_range (pa_cons (pe_callB call_len_seq (by rfl) T.n_len PySem.boot_len (pa_cons (pv 1) pa_nil)) pa_nil)) (pg_name (i := 2) sc_law_same.nd rfl (.inl rfl))
 (pss_cons (ps_if (PW.pt (pw_or (pt_not (pt_val (pe_callB call_isi (by rfl) T.n_isinstance (by decide +kernel) (pa_cons (pe_ix ix_list (pv 0) (pv 2) (fun _ _ => rfl)) (pa_cons (pe_bltn (v := .ty "tuple") (by rfl) T.n_tuple (by decide +kernel) rfl) pa_nil))))) (pw_or1 (pt_cmpR op_ne (pe_callB call_len_seq (by rfl) T.n_len PySem.boot_len (pa_cons (pe_ix ix_list (pv 0) (pv 2) (fun _ _ => rfl)) pa_nil)) (pe_callB call_len_seq (by rfl) T.n_len PySem.boot_len (pa_cons (pe_ix ix_list (pv 1) (pv 2) (fun _ _ => rfl)) pa_nil)) (nomark _)))))
 (pss_one (ps_ret pe_bl))
 pss_nil)
 (pss_cons (ps_if (PW.pt (pw_or (pt_val (pe_callB call_isi (by rfl) T.n_isinstance (by decide +kernel) (pa_cons (pe_ix ix_tup (pe_ix ix_list (pv 0) (pv 2) (fun _ _ => rfl)) pe_int (fun _ _ => rfl)) (pa_cons (pe_bltn (v := .ty "bool") (by rfl) T.n_bool (by decide +kernel) rfl) pa_nil)))) (pw_or1 (pt_not (pt_val (pe_callB call_isi (by rfl) T.n_isinstance (by decide +kernel) (pa_cons (pe_ix ix_tup (pe_ix ix_list (pv 0) (pv 2) (fun _ _ => rfl)) pe_int (fun _ _ => rfl)) (pa_cons (pe_bltn (v := .ty "int") (by rfl) T.n_int (by decide +kernel) rfl) pa_nil))))))))
 (pss_one (ps_ret pe_bl))
 pss_nil)
 (pss_one (ps_if (pt_cmpR (op_neD hr.units) (pe_ix ix_list (pv 0) (pv 2) (fun _ _ => rfl)) (pe_ix ix_list (pv 1) (pv 2) (fun _ _ => rfl)) (nomark _))
 (pss_one (ps_ret pe_bl))
 pss_nil)))))
 (pss_one (ps_ret pe_bl))), ?_⟩
    obtain ⟨ps, p1, p2, p3⟩ := rp
    obtain ⟨qs, q1, q2, q3⟩ := rq
    refine ⟨_, rfl, _, _, _, _, true, rfl, ClsV.ty _, .base (.lst p1), kit_ty (by decide +kernel), _, rfl, ?_⟩
    refine iteF ?_
    refine ⟨_, rfl, p, _, rfl, .inl (SqL.of p1), _, rfl, q, _, rfl, .inl (SqL.of q1), rfl, _, rfl, ?_⟩
    rw [List.length_map, List.length_map, p2, q2]
    refine iteNS rfl ?_
    refine ⟨_, rfl, q, _, rfl, .inl (SqL.of q1), ?_⟩
    rw [List.length_map, q2]
    refine ⟨_, rfl, by omega, by omega, for_range (lo := 0) (n := L.length) (fun i σ H' => H' = H ∧ ∃ v, σ = [some (.ref p), some (.ref q), v]) ⟨rfl, _, rfl⟩ ?_ ?_⟩
    · rintro i σ H' hi ⟨rfl, v, rfl⟩
      have z0 : (0 : Int) + (i : Int) = (i : Int) := Int.zero_add _
      rw [z0]
      have x1 : L[i]? = some L[i] := List.getElem?_eq_getElem hi
      have y1 : ps[i]? = some (ps[i]'(by omega)) := List.getElem?_eq_getElem _
      have y2 : qs[i]? = some (qs[i]'(by omega)) := List.getElem?_eq_getElem _
      have t1 := p3 i _ _ y1 x1
      have t2 := q3 i _ _ y2 x1
      have m1 : (ps.map V.ref)[i]? = some (.ref (ps[i]'(by omega))) := by rw [List.getElem?_map, y1] <;> rfl
      have m2 : (qs.map V.ref)[i]? = some (.ref (qs[i]'(by omega))) := by rw [List.getElem?_map, y2] <;> rfl
      refine ⟨_, rfl, _, rfl, p, _, _, _, rfl, rfl, SqL.of p1, atI_nat m1, _, _, _, _, true, rfl, ClsV.ty _, .base (.tup t1), kit_ty (by decide +kernel), _, rfl, ?_⟩
      refine iteF ?_
      refine ⟨_, rfl, _, rfl, p, _, _, _, rfl, rfl, SqL.of p1, atI_nat m1, _, _, rfl, .inr (SqT.of t1), _, rfl, _, rfl, q, _, _, _, rfl, rfl, SqL.of q1, atI_nat m2, _, _, rfl, .inr (SqT.of t2), rfl, _, rfl, ?_⟩
      refine iteNS rfl ?_
      refine ⟨_, rfl, _, rfl, p, _, _, _, rfl, rfl, SqL.of p1, atI_nat m1, _, _, _, _, rfl, rfl, SqT.of t1, atI_nat (j := 1) (stepV_1 it L[i]), _, _, _, _, false, rfl, ClsV.ty _, .base (.int _), kit_ty (by decide +kernel), _, rfl, ?_⟩
      refine iteF ?_
      refine ⟨_, rfl, _, rfl, p, _, _, _, rfl, rfl, SqL.of p1, atI_nat m1, _, _, _, _, rfl, rfl, SqT.of t1, atI_nat (j := 1) (stepV_1 it L[i]), _, _, _, _, true, rfl, ClsV.ty _, .base (.int _), kit_ty (by decide +kernel), _, rfl, ?_⟩
      refine iteF ?_
      refine ⟨_, rfl, _, rfl, p, _, _, _, rfl, rfl, SqL.of p1, atI_nat m1, _, rfl, _, rfl, q, _, _, _, rfl, rfl, SqL.of q1, atI_nat m2, dataS it L[i], dataS it L[i], dataS_dp t1, dataS_dp t2, dataS_shaped hok _, dataS_shaped hok _, _, rfl, ?_⟩
      rw [dataS_eqv hok]
      refine iteF ?_
      exact ⟨rfl, _, rfl⟩
    · rintro σ H' ⟨rfl, v, rfl⟩
      exact k
end
end K09

namespace K09
open PySem L2 SI CM TX TL
section
variable {w : World} {K : PySem.W.Frag} {mg : Str → Option Value} {base : Heap} (T : Txt w K mg)
def kindL : List Kd := [.rd, .wr, .cm, .wr, .rd, .wr, .rd, .ab, .wr, .rd, .cm, .rd, .wr, .rd, .wr, .cm]
abbrev VK' (k : Kd) : V := .str k.nm
/-- one more step behind a run -/
theorem run_more {H H3 : Hp} {R q : Addr} {L : List (Kd × Nat)} {it : Str} {x : Kd × Nat} {qs : List Addr} (r1 : H R = some (.lst (qs.map V.ref))) (r2 : qs.length = L.length) (r3 : ∀ (i : Nat) q x, qs[i]? = some q → L[i]? = some x → H q = some (.tup (stepV it x)))
    (s : Same H H3) (nq : H3 q = none) : IsRun (upd (upd H3 q (.tup (stepV it x))) R (.lst (qs.map V.ref ++ [V.ref q]))) R (L ++ [x]) it := by
  have hR3 : H3 R = some (.lst (qs.map V.ref)) := s _ _ r1
  refine ⟨qs ++ [q], ?_, by rw [List.length_append, List.length_append, r2] <;> rfl, ?_⟩
  · rw [upd_same, List.map_append]
    rfl
  · intro j q' x' a1 a2
    by_cases hj : j < qs.length
    · rw [List.getElem?_append_left hj] at a1
      rw [List.getElem?_append_left (by omega)] at a2
      have z := s _ _ (r3 j q' x' a1 a2)
      rw [upd_ne (fun e => by rw [e, hR3] at z; cases z), upd_ne (ne_of_none z nq)]
      exact z
    · have hj2 : j < (qs ++ [q]).length := (List.getElem?_eq_some_iff.mp a1).1
      rw [List.length_append] at hj2
      have hj3 : j < qs.length + 1 := hj2
      have ej : j = qs.length := by omega
      subst ej
      rw [List.getElem?_append_right (Nat.le_refl _), Nat.sub_self] at a1
      cases a1
      rw [List.getElem?_append_right (by omega), r2, Nat.sub_self] at a2
      cases a2
      rw [upd_ne (fun e => by rw [e, hR3] at nq; cases nq), upd_same]
def spLs (K : PySem.W.Frag) : Sp := fun vs H Q _ => ∃ (a b c : Addr) (ds : List Int) (ms : List Nat) (nm : Str), vs = [.ref a, .ref b, .ref c] ∧ SqL K H a (ds.map V.int) ∧ H b = some (.lst (ms.map VN)) ∧ H c = some (.lst [.str nm]) ∧ ds.length ≤ 200 ∧ 0 < ms.length ∧ ms.length ≤ 6 ∧ (∀ m ∈ ms, 1 ≤ m ∧ m ≤ topN) ∧
  ∀ (H' : Hp) (p : Addr) (L : List (Kd × Nat)), Same H H' → H p = none → IsRun H' p L nm → Good L → L.length = ds.length → Q (.ref p) H'
theorem ok_lsteps : FnOk PP w K mg base CX0 1 T.f_law_steps T.d_law_steps ["_law_draws", "_law_marks_here", "_law_names_here"] (spLs K) := by
  refine T.F_law_steps.ok sc_law_steps (fun vs H Q E h => ?_) (fun cdv A outer s H vs Q E hr h => ?_)
  · obtain ⟨a, b, c, ds, ms, nm, rfl, _⟩ := h
    rfl
  · obtain ⟨a, b, c, ds, ms, nm, rfl, hS, hb, hc, hds, hm0, hm6, hms, k⟩ := h
    refine ⟨_, pss_cons (ps_set (i := 3) sc_law_steps.nd rfl (.inl rfl) (pe_lst (pa_cons pe_str (pa_cons pe_str (pa_cons pe_str (pa_cons pe_str (pa_cons pe_str (pa_cons pe_str (pa_cons pe_str (pa_cons pe_str pa_nil))))))))))
 (pss_cons (ps_set (i := 3) sc_law_steps.nd rfl (.inl rfl) (pe_op op_cat (pv 3) (pe_lst (pa_cons pe_str (pa_cons pe_str (pa_cons pe_str (pa_cons pe_str (pa_cons pe_str (pa_cons pe_str (pa_cons pe_str (pa_cons pe_str pa_nil)))))))))))
 (pss_cons (ps_set (i := 4) sc_law_steps.nd rfl (.inl rfl) (pe_lst pa_nil))
 (pss_cons (ps_for PassesOwn.never rfl (pi_list (pv 0)) (pg_name (i := 5) sc_law_steps.nd rfl (.inl rfl))
 (pss_cons (ps_set (i := 6) sc_law_steps.nd rfl (.inl rfl) (pe_ix ix_list (pv 3) (pe_op op_mod (pe_callTy call_int1 (by rfl) T.n_int (by decide +kernel) (pa_cons (pv 5) pa_nil)) pe_int) (fun _ _ => rfl)))
 (pss_cons (ps_set (i := 7) sc_law_steps.nd rfl (.inl rfl) (pe_ix ix_list (pv 1) (pe_op op_mod (pe_callTy call_int1 (by rfl) T.n_int (by decide +kernel) (pa_cons (pe_op op_fdiv (pv 5) pe_int) pa_nil)) (pe_callB call_len_seq (by rfl) T.n_len PySem.boot_len (pa_cons (pv 1) pa_nil))) (fun _ _ => rfl)))
 (pss_one (ps_if (pt_cmpR op_in_seq (pv 6) (pe_lst (pa_cons pe_str (pa_cons pe_str pa_nil))) rfl)
 (pss_one (ps_expr (pe_bm PySem.F.plainAttrs_list PySem.F.slot_list_append PySem.F.type_list_append mt_append (pv 4) (pa_cons (pe_tup (pa_cons (pv 6) (pa_cons (pv 7) (pa_cons (pe_ix ix_list (pv 2) (pe_op op_mod (pe_callTy call_int1 (by rfl) T.n_int (by decide +kernel) (pa_cons (pe_op op_fdiv (pv 5) (pe_op op_mul pe_int (pe_callB call_len_seq (by rfl) T.n_len PySem.boot_len (pa_cons (pv 1) pa_nil)))) pa_nil)) (pe_callB call_len_seq (by rfl) T.n_len PySem.boot_len (pa_cons (pv 2) pa_nil))) (fun _ _ => rfl)) pa_nil)))) pa_nil))))
 (pss_one (ps_expr (pe_bm PySem.F.plainAttrs_list PySem.F.slot_list_append PySem.F.type_list_append mt_append (pv 4) (pa_cons (pe_tup (pa_cons (pv 6) (pa_cons (pv 7) pa_nil))) pa_nil)))))))))
 (pss_one (ps_ret (pv 4)))))), ?_⟩
    have s8 : 8 ≤ sizeLine := by decide
    have two : 2 ≤ sizeLine := by decide
    have three : 3 ≤ sizeLine := by decide
    have p16 : (0 : Int) < 16 := by decide
    refine ⟨s8, fun k1 n1 => ⟨_, rfl, s8, fun k2 n2 => ⟨k1, k2, _, _, rfl, rfl, kp n2 upd_same, upd_same, by show 16 ≤ sizeLine; decide, fun KL nK => ⟨Nat.zero_le _, fun R nR => ?_⟩⟩⟩⟩
    have hK0 : ∀ {H' : Hp}, (upd H' KL (.lst ([V.str "read", .str "write", .str "commit", .str "write", .str "read", .str "write", .str "read", .str "abort"] ++ [V.str "write", .str "read", .str "commit", .str "read", .str "write", .str "read", .str "write", .str "commit"]))) KL = some (.lst (kindL.map VK')) := fun {H'} => by
      rw [upd_same]
      rfl
    have sm0 := same_new (o := .lst []) (same_new (o := .lst ([V.str "read", .str "write", .str "commit", .str "write", .str "read", .str "write", .str "read", .str "abort"] ++ [V.str "write", .str "read", .str "commit", .str "read", .str "write", .str "read", .str "write", .str "commit"])) (same_new (same_new (Same.refl H) n1) n2) nK) nR
    have hR0 : H R = none := (same_new (same_new (same_new (Same.refl H) n1) n2) nK).free nR
    have hRK : R ≠ KL := fun e => by rw [e, upd_same] at nR; cases nR
    refine ⟨_, rfl, a, rfl, ⟨_, sm0.seq hS⟩, for_list (K := K) (a := a) (xs := ds.map V.int) (fun i σ H' => ∃ (L : List (Kd × Nat)) (v5 v6 v7 : Option V), L.length = i ∧ Good L ∧ IsRun H' R L nm ∧ H' KL = some (.lst (kindL.map VK')) ∧ Same H H' ∧
      σ = [some (.ref a), some (.ref b), some (.ref c), some (.ref KL), some (.ref R), v5, v6, v7])
      ⟨[], none, none, none, rfl, (fun _ h => by cases h), ⟨[], upd_same, rfl, fun i q x h => by simp at h⟩, kp nR hK0, sm0, rfl⟩ (fun i σ H' _ ⟨_, _, _, _, _, _, _, _, sm, _⟩ => sm.seq hS) ?_ ?_⟩
    · rintro i x σ H' hi ⟨L, v5, v6, v7, hL, hG, ⟨qs, r1, r2, r3⟩, hK, sm, rfl⟩
      obtain ⟨d, hd1, rfl⟩ := ints_at hi
      have hid : i < ds.length := (List.getElem?_eq_some_iff.mp hd1).1
      have hb' := sm _ _ hb
      have hc' := sm _ _ hc
      -- the kind
      have g0 := Int.emod_nonneg d (Int.ne_of_gt p16)
      have g1 := Int.emod_lt_of_pos d p16
      obtain ⟨j, ej⟩ := Int.eq_ofNat_of_zero_le g0
      have hj : j < kindL.length := by show j < 16; omega
      obtain ⟨kd, hkd⟩ : ∃ kd, kindL[j]? = some kd := ⟨_, List.getElem?_eq_getElem hj⟩
      have a1 : atI (kindL.map VK') (d % 16) = some (VK' kd) := by
        rw [ej]
        exact atI_nat (by rw [List.getElem?_map, hkd] <;> rfl)
      -- the mark
      have lp : (0 : Int) < ((ms.map VN).length : Int) := by rw [List.length_map]; omega
      have g2 := Int.emod_nonneg (d / 16) (Int.ne_of_gt lp)
      have g3 := Int.emod_lt_of_pos (d / 16) lp
      obtain ⟨z, ez⟩ := Int.eq_ofNat_of_zero_le g2
      have hz : z < ms.length := by rw [List.length_map] at g3 ez; omega
      obtain ⟨n, hn⟩ : ∃ n, ms[z]? = some n := ⟨_, List.getElem?_eq_getElem hz⟩
      obtain ⟨n1', n2'⟩ := hms n (List.mem_of_getElem? hn)
      have a2 : atI (ms.map VN) (d / 16 % ((ms.map VN).length : Int)) = some (VN n) := by
        rw [ez]
        exact atI_nat (by rw [List.getElem?_map, hn] <;> rfl)
      refine ⟨_, rfl, _, rfl, .inl ⟨_, rfl, _, _, rfl, rfl, p16, KL, _, _, _, rfl, rfl, SqL.of hK, a1, ?_⟩⟩
      refine ⟨_, rfl, _, rfl, _, _, rfl, rfl, ⟨by decide, by decide⟩, .inl ⟨_, rfl, _, rfl, b, _, rfl, .inl (SqL.of hb'), _, _, rfl, rfl, lp, b, _, _, _, rfl, rfl, SqL.of hb', a2, ?_⟩⟩
      refine ⟨_, rfl, two, fun Tq nTq => ⟨Tq, _, rfl, .inl (SqL.of upd_same), rfl, rfl, _, rfl, ?_⟩⟩
      rw [if_neg Bool.false_ne_true, in_two]
      have sT := same_new (o := .lst [.str "read", .str "write"]) (Same.refl H') nTq
      have lenR : (qs.map V.ref).length < sizeLine := small1000 (by rw [List.length_map]; omega)
      have gd : Good (L ++ [(kd, n)]) := by
        intro x hx
        rcases List.mem_append.mp hx with h | h
        · exact hG x h
        · rw [List.mem_singleton.mp h]
          exact ⟨n1', n2'⟩
      have fin : ∀ (q : Addr) (H3 : Hp) (v5 v6 v7 : Option V), Same H' H3 → H3 q = none → (∃ (L' : List (Kd × Nat)) (u5 u6 u7 : Option V), L'.length = i + 1 ∧ Good L' ∧ IsRun (upd (upd H3 q (.tup (stepV nm (kd, n)))) R (.lst (qs.map V.ref ++ [V.ref q]))) R L' nm ∧
          (upd (upd H3 q (.tup (stepV nm (kd, n)))) R (.lst (qs.map V.ref ++ [V.ref q]))) KL = some (.lst (kindL.map VK')) ∧ Same H (upd (upd H3 q (.tup (stepV nm (kd, n)))) R (.lst (qs.map V.ref ++ [V.ref q]))) ∧
          [some (V.ref a), some (.ref b), some (.ref c), some (.ref KL), some (.ref R), v5, v6, v7] = [some (.ref a), some (.ref b), some (.ref c), some (.ref KL), some (.ref R), u5, u6, u7]) := by
        intro q H3 v5 v6 v7 s3 nq
        refine ⟨L ++ [(kd, n)], v5, v6, v7, by simp [hL], gd, run_more r1 r2 r3 s3 nq, ?_, ?_, rfl⟩
        · rw [upd_ne hRK.symm]
          exact kp nq (s3 _ _ hK)
        · intro bb o zz
          rw [upd_ne (ne_of_none zz hR0)]
          exact kp nq (s3 _ _ (sm _ _ zz))
      cases hk : kd.has with
      | true =>
        refine iteT ?_
        have l16 : (0 : Int) < 16 * ((ms.map VN).length : Int) := by omega
        have l16' : 16 * ((ms.map VN).length : Int) < 1073741824 := by rw [List.length_map]; omega
        have hb3 := sT _ _ hb'
        have hc3 := sT _ _ hc'
        refine ⟨_, rfl, .inl ⟨rfl, _, SqL.of (sT _ _ r1)⟩, _, rfl, _, rfl, _, rfl, _, rfl, _, rfl, b, _, rfl, .inl (SqL.of hb3), _, _, rfl, rfl, .inl ⟨by decide, by decide⟩, _, _, rfl, rfl, ⟨l16, l16'⟩, .inl ⟨_, rfl, _, rfl, c, _, rfl, .inl (SqL.of hc3), _, _, rfl, rfl, by show (0 : Int) < 1; decide, c, _, _, .str nm, rfl, rfl, SqL.of hc3, ?_, three, fun q nq => ⟨R, _, _, rfl, rfl, kp nq (sT _ _ r1), lenR, ?_⟩⟩⟩
        · show atI [V.str nm] (_ % 1) = _
          rw [Int.emod_one]
          exact atI_nat (j := 0) rfl
        · have ev : stepV nm (kd, n) = [.str kd.nm, .int (n : Int), .str nm] := by unfold stepV; rw [if_pos hk]
          have zz := fin q _ (some (.int d)) (some (VK' kd)) (some (VN n)) sT nq
          rw [ev] at zz
          exact zz
      | false =>
        refine iteF ?_
        refine ⟨_, rfl, .inl ⟨rfl, _, SqL.of (sT _ _ r1)⟩, _, rfl, _, rfl, two, fun q nq => ⟨R, _, _, rfl, rfl, kp nq (sT _ _ r1), lenR, ?_⟩⟩
        have ev : stepV nm (kd, n) = [.str kd.nm, .int (n : Int)] := by unfold stepV; rw [if_neg (by show ¬ kd.has = true; rw [hk]; exact Bool.false_ne_true)]
        have zz := fin q _ (some (.int d)) (some (VK' kd)) (some (VN n)) sT nq
        rw [ev] at zz
        exact zz
    · rintro σ H' ⟨L, v5, v6, v7, hL, hG, run, hK, sm, rfl⟩
      exact ⟨_, rfl, k H' R L sm hR0 run hG (by rw [hL, List.length_map])⟩
end
end K09

namespace K09
open PySem L2 SI CM TX TL
section
variable {w : World} {K : PySem.W.Frag} {mg : Str → Option Value} {base : Heap} (T : Txt w K mg)
/-- a text of good words, read -/
theorem steps_good {B : Addr} {L : List (Kd × Nat)} {it : Str} {H : Hp} {Q : VK} {E : XK} (hG : Good L) (hL : L.length ≤ 100) (k : ∀ H' p, Same H H' → IsRun H' p L it → Q (.ref p) H') :
    spSteps B [.str (Txt.join sp (L.map word)), .str it] H Q E := by
  have hw : ∀ w ∈ L.map word, w.length ≤ 32 := fun w hw => by
    obtain ⟨x, hx, rfl⟩ := List.mem_map.mp hw
    rw [len_tl, tl_word]
    exact word_len (hG x hx).2
  have hj := join_len hw
  rw [List.length_map] at hj
  refine ⟨_, _, rfl, by omega, ?_⟩
  cases L with
  | nil => exact .inl ⟨by decide +kernel, k⟩
  | cons x r =>
    refine .inr (.inl ⟨x :: r, by simp, ?_, hG, by omega, split_good (by simp), k⟩)
    rw [tl_joinS]
    cases r with
    | nil => exact fun e => by cases e
    | cons y r => exact fun e => by cases e
/-- a text with a bad word behind good ones, read -/
theorem steps_bad {B : Addr} {L : List (Kd × Nat)} {b : Str} {post : List Str} {it : Str} {H : Hp} {Q : VK} {E : XK} (hG : Good L) (hL : L.length ≤ 100) (hb : BadW b) (hp : post.length ≤ 200) (hpl : ∀ w ∈ post, w.length ≤ 100)
    (hne : tl (Txt.join sp (L.map word ++ b :: post)) ≠ []) (k : ∀ H' d, Same H H' → H' d = some (.xd [(("index" : Str), .int (L.length : Int))]) → E (.ref B) (some d) H') :
    spSteps B [.str (Txt.join sp (L.map word ++ b :: post)), .str it] H Q E := by
  obtain ⟨bl, b0, hh, ho, bl0⟩ := hb
  have hw : ∀ w ∈ L.map word ++ b :: post, w.length ≤ 100 := fun w hw => by
    rcases List.mem_append.mp hw with hw | hw
    · obtain ⟨x, hx, rfl⟩ := List.mem_map.mp hw
      rw [len_tl, tl_word]
      exact Nat.le_trans (word_len (hG x hx).2) (by decide)
    · rcases List.mem_cons.mp hw with rfl | hw
      · exact bl
      · exact hpl w hw
  have hj := join_len hw
  have e : (L.map word ++ b :: post).length = L.length + (post.length + 1) := by rw [List.length_append, List.length_map, List.length_cons]
  rw [e] at hj
  obtain ⟨rest, hs⟩ := split_bad (L := L) hh post
  exact ⟨_, _, rfl, by omega, .inr (.inr ⟨L, b0, rest, hne, hG, by omega, hs, ho, bl0, k⟩)⟩
def spRef : Sp := fun vs H Q _ => ∃ (L : List (Kd × Nat)) (b : Str) (post : List Str), vs = [.str (Txt.join sp (L.map word ++ b :: post)), .int (L.length : Int)] ∧ Good L ∧ L.length ≤ 100 ∧ BadW b ∧ post.length ≤ 200 ∧ (∀ w ∈ post, w.length ≤ 100) ∧
  tl (Txt.join sp (L.map word ++ b :: post)) ≠ [] ∧ ∀ H', Same H H' → Q (.bl true) H'
theorem ok_refused : FnOk PP w K mg base CX0 6 T.f_law_refused T.d_law_refused ["_law_text", "_law_index"] spRef := by
  refine T.F_law_refused.ok sc_law_refused (fun vs H Q E h => ?_) (fun cdv A outer s H vs Q E hr h => ?_)
  · obtain ⟨L, b, post, rfl, _⟩ := h
    rfl
  · obtain ⟨L, b, post, rfl, hG, hL, hb, hp, hpl, hne, k⟩ := h
    obtain ⟨_, rd1, hb1⟩ := b1_steps_of T
    refine ⟨_, pss_cons (ps_try_as (i := 2) (Wout := fun _ _ _ _ => False) rfl rfl sc_law_refused.nd rfl rfl ⟨rfl, by decide, Or.inl T.g_StampError⟩ takes0
        (fun W pn xe tk _ => pss_one (ps_expr (pe_callSD (ok_steps T) (hr.mono (by decide)) (by rfl) T.g_steps_of T.F_steps_of.kp hb1 rd1 (fun σ => passAt tk σ) (pa_cons (pv 0) pa_nil))))
        (fun a oe cls d pn hz hf => pss_cons
          (ps_if (PW.pt (pw_or (pt_not (pt_val (pe_callB (id := "isinstance") (r := rIsD K T.c_BadStep a cls d) (call_isD T.excc_BadStep hz hf) (by rfl) T.n_isinstance (by decide +kernel) (pa_cons (pv 2) (pa_cons (pe_glob (v := .ref T.c_BadStep) (by rfl) T.g_BadStep rfl) pa_nil)))))
            (pw_or (pt_val (pe_callB (id := "isinstance") (r := rIsD K T.c_BadStep a cls d) (call_isD T.excc_BadStep hz hf) (by rfl) T.n_isinstance (by decide +kernel) (pa_cons (pv 2) (pa_cons (pe_glob (v := .ref T.c_BadStamp) (by rfl) T.g_BadStamp rfl) pa_nil))))
            (pw_or1 (pt_not (pt_val (pe_callB (id := "isinstance") (r := rIsD K T.c_BadStep a cls d) (call_isD T.excc_BadStep hz hf) (by rfl) T.n_isinstance (by decide +kernel) (pa_cons (pv 2) (pa_cons (pe_bltn (v := .ty "ValueError") (by rfl) T.n_ValueError (by decide +kernel) rfl) pa_nil)))))))))
            (pss_one (ps_ret pe_bl)) pss_nil)
          (pss_one (ps_ret (pe_and (pe_not (pe_callB (id := "isinstance") (r := rIsi K) call_isi (by rfl) T.n_isinstance (by decide +kernel) (pa_cons (pe_xf T.xfc_BadStep T.na_BadStep_index hz hf (pv 2)) (pa_cons (pe_bltn (v := .ty "bool") (by rfl) T.n_bool (by decide +kernel) rfl) pa_nil))))
            (pe_one (pe_cmpR op_eq (pe_xf T.xfc_BadStep T.na_BadStep_index hz hf (pv 2)) (pv 1) (nomark _))))))))
      (pss_one (ps_ret pe_bl)), ?_⟩
    refine ⟨_, rfl, ?_⟩
    dsimp only [tNil, List.cons_append, List.nil_append]
    refine steps_bad (it := "x") (L := L) (b := b) (post := post) hG hL hb hp hpl hne fun H2 d s2 hd => ?_
    refine ⟨true, T.exm_BadStep_StampError, fun _ a ha => ?_, fun z => by cases z⟩
    have lk : ([(("index" : Str), V.int (L.length : Int))] : List (Str × V)).lookup ("index" : Str) = some (.int (L.length : Int)) := by simp [List.lookup]
    refine ⟨_, rfl, _, _, true, d, _, rfl, rfl, rfl, ClsV.own _, T.kit_BadStep_BadStep, hd, _, rfl, ?_⟩
    refine iteF ⟨_, rfl, _, _, false, d, _, rfl, rfl, rfl, ClsV.own _, T.kit_BadStep_BadStamp, hd, _, rfl, ?_⟩
    refine iteF ⟨_, rfl, _, _, true, d, _, rfl, rfl, rfl, ClsV.ty _, T.kit_BadStep_VE, hd, _, rfl, ?_⟩
    refine iteF ?_
    refine ⟨_, rfl, rfl, rfl, d, _, _, rfl, hd, lk, _, _, _, _, false, rfl, ClsV.ty _, .base (.int _), kit_ty (by decide +kernel), _, rfl, _, rfl, ?_⟩
    refine iteT ⟨_, rfl, rfl, rfl, d, _, _, rfl, hd, lk, _, rfl, rfl, ?_⟩
    rw [decide_eq_true (rfl : V.int (L.length : Int) = V.int (L.length : Int))]
    exact k _ s2
end
end K09

namespace K09
open PySem L2 SI CM TX TL
section
variable {w : World} {K : PySem.W.Frag} {mg : Str → Option Value} {base : Heap} (T : Txt w K mg)
def spLaw (K : PySem.W.Frag) : Sp := fun vs H Q _ => ∃ (a : Addr) (ns : List Int), vs = [.ref a] ∧ SqL K H a (ns.map V.int) ∧ ns.length ≤ 63 ∧ ∀ H', Q (.bl true) H'
abbrev wv (x : Kd × Nat) : V := .str (word x)
theorem VN_top (ms : List Nat) : ms.map VN ++ [V.int ((10 : Int) ^ (30 : Int).toNat)] = (ms ++ [topN]).map VN := by
  rw [List.map_append]
  rfl
theorem stepV_0 (it : Str) (p : Kd × Nat) : (stepV it p)[0]? = some (.str p.1.nm) := by
  unfold stepV
  cases p.1.has <;> rfl
/-- one more step, an object that stands, behind a run -/
theorem run_more2 {H H3 : Hp} {R q : Addr} {L : List (Kd × Nat)} {it : Str} {x : Kd × Nat} {qs : List Addr} (r1 : H R = some (.lst (qs.map V.ref))) (r2 : qs.length = L.length) (r3 : ∀ (i : Nat) q x, qs[i]? = some q → L[i]? = some x → H q = some (.tup (stepV it x)))
    (s : Same H H3) (hq : H3 q = some (.tup (stepV it x))) : IsRun (upd H3 R (.lst (qs.map V.ref ++ [V.ref q]))) R (L ++ [x]) it := by
  have hR3 : H3 R = some (.lst (qs.map V.ref)) := s _ _ r1
  refine ⟨qs ++ [q], ?_, by rw [List.length_append, List.length_append, r2] <;> rfl, ?_⟩
  · rw [upd_same, List.map_append]
    rfl
  · intro j q' x' a1 a2
    by_cases hj : j < qs.length
    · rw [List.getElem?_append_left hj] at a1
      rw [List.getElem?_append_left (by omega)] at a2
      have z := s _ _ (r3 j q' x' a1 a2)
      rw [upd_ne (fun e => by rw [e, hR3] at z; cases z)]
      exact z
    · have hj2 : j < (qs ++ [q]).length := (List.getElem?_eq_some_iff.mp a1).1
      rw [List.length_append] at hj2
      have hj3 : j < qs.length + 1 := hj2
      have ej : j = qs.length := by omega
      subst ej
      rw [List.getElem?_append_right (Nat.le_refl _), Nat.sub_self] at a1
      cases a1
      rw [List.getElem?_append_right (by omega), r2, Nat.sub_self] at a2
      cases a2
      rw [upd_ne (fun e => by rw [e, hR3] at hq; cases hq)]
      exact hq
theorem word_eq (x : Kd × Nat) : (⟨#[x.1.sg]⟩ : Str) ++ Str.ofString (toString ((x.2 : Nat) : Int)) = word x := ext_tl (by rw [tl_append, tl_num, tl_word] <;> rfl)
theorem join_ne {ws : List Str} (h : 2 ≤ ws.length) : tl (Txt.join sp ws) ≠ [] := by
  rw [tl_joinS]
  match ws, h with
  | x :: y :: r, _ =>
    intro e
    have e' : tl x ++ ([32] ++ joinL [32] ((y :: r).map tl)) = [] := e
    simp at e'
theorem good_v {B : Addr} {L : List (Kd × Nat)} {it : Str} {vs : List V} {H : Hp} {Q : VK} {E : XK} (hv : vs = [.str (Txt.join sp (L.map word)), .str it]) (hG : Good L) (hL : L.length ≤ 100) (k : ∀ H' p, Same H H' → IsRun H' p L it → Q (.ref p) H') : spSteps B vs H Q E := by
  subst hv
  exact steps_good hG hL k
theorem map_ins {α β : Type} (f : α → β) (xs : List α) (n : Nat) (y : α) : (xs.map f).take n ++ [f y] ++ (xs.map f).drop n = (xs.take n ++ [y] ++ xs.drop n).map f := by
  simp [List.map_take, List.map_drop]
theorem ins_split {α : Type} {b1 b2 : α} {post : List α} {r : Nat} : ∀ {pre : List α}, (pre ++ b1 :: post).take (pre.length + 1 + r) ++ [b2] ++ (pre ++ b1 :: post).drop (pre.length + 1 + r) = pre ++ b1 :: (post.take r ++ b2 :: post.drop r)
  | [] => by
    have e : ([] : List α).length + 1 + r = r + 1 := by simp [Nat.add_comm]
    rw [e]
    simp
  | p :: pre => by
    have ih := ins_split (b1 := b1) (b2 := b2) (post := post) (r := r) (pre := pre)
    have e : (p :: pre).length + 1 + r = (pre.length + 1 + r) + 1 := by simp only [List.length_cons]; omega
    rw [e]
    simp only [List.cons_append, List.take_succ_cons, List.drop_succ_cons]
    rw [← ih]
/-- what stands behind the draws -/
structure S1 (H0 H : Hp) (M D : Addr) (ms : List Nat) (ds : List Int) : Prop where
  sm : Same H0 H
  hM : H M = some (.lst (ms.map VN))
  hD : H D = some (.lst (ds.map V.int))
/-- what stands behind the run -/
structure S2 (H0 H : Hp) (R : Addr) (L : List (Kd × Nat)) (nm : Str) : Prop where
  sm : Same H0 H
  run : IsRun H R L nm
theorem old {H H' : Hp} {D : Addr} {o : HO} (s : Same H H') (n : H D = none) : Same H (upd H' D o) := fun b o' z => by
  rw [upd_ne (ne_of_none z n)]
  exact s b o' z
theorem ok_law : FnOk PP w K mg base CX0 9 T.f_law T.d_law ["_law_script"] (spLaw K) := by
  refine T.F_law.ok sc_law (fun vs H Q E h => ?_) (fun cdv A outer s H vs Q E hr h => ?_)
  · obtain ⟨a, ns, rfl, _⟩ := h
    rfl
  · obtain ⟨a, ns, rfl, hS, hlen, k⟩ := h
    obtain ⟨_, rd1_steps_of, hb1_steps_of⟩ := b1_steps_of T
    obtain ⟨_, rd0_steps_of, hb0_steps_of⟩ := b0_steps_of T
    refine ⟨_, pss_cons (ps_set (i := 1) sc_law.nd rfl (.inl rfl) (pe_op op_cat (pe_call (ok_marks T) (hr.mono (by decide)) (by rfl) T.g_law_marks T.F_law_marks.kp (b_law_marks T) .nil pass0 (pa_cons (pe_call (ok_cell T) (hr.mono (by decide)) (by rfl) T.g_law_cell T.F_law_cell.kp (b_law_cell T) .nil pass0 (pa_cons (pv 0) (pa_cons pe_int pa_nil))) (pa_cons pe_int pa_nil))) (pe_lst (pa_cons (pe_op op_pow pe_int pe_int) pa_nil))))
 (pss_cons (ps_set (i := 2) sc_law.nd rfl (.inl rfl) (pe_ix ix_list (pe_call (ok_names T) (hr.mono (by decide)) (by rfl) T.g_law_names T.F_law_names.kp (b_law_names T) .nil pass0 (pa_cons (pe_call (ok_cell T) (hr.mono (by decide)) (by rfl) T.g_law_cell T.F_law_cell.kp (b_law_cell T) .nil pass0 (pa_cons (pv 0) (pa_cons pe_int pa_nil))) pa_nil)) pe_int (fun _ _ => rfl)))
 (pss_cons (ps_set (i := 3) sc_law.nd rfl (.inl rfl) (pe_call (ok_row T) (hr.mono (by decide)) (by rfl) T.g_law_row T.F_law_row.kp (b_law_row T) .nil pass0 (pa_cons (pe_call (ok_cell T) (hr.mono (by decide)) (by rfl) T.g_law_cell T.F_law_cell.kp (b_law_cell T) .nil pass0 (pa_cons (pv 0) (pa_cons pe_int pa_nil))) (pa_cons (pe_op op_mod (pe_callTy call_int1 (by rfl) T.n_int (by decide +kernel) (pa_cons (pe_op op_add (pe_call (ok_cell T) (hr.mono (by decide)) (by rfl) T.g_law_cell T.F_law_cell.kp (b_law_cell T) .nil pass0 (pa_cons (pv 0) (pa_cons pe_int pa_nil))) pe_int) pa_nil)) pe_int) (pa_cons pe_int pa_nil)))))
 (C8.pss_cut (ps_for PassesOwn.never rfl (pi_range2 rfl T.n_range (pa_cons pe_int (pa_cons (pe_callB call_len_seq (by rfl) T.n_len PySem.boot_len (pa_cons (pv 0) pa_nil)) pa_nil))) (pg_name (i := 4) sc_law.nd rfl (.inl rfl))
 (pss_one (ps_expr (pe_bm PySem.F.plainAttrs_list PySem.F.slot_list_append PySem.F.type_list_append mt_append (pv 3) (pa_cons (pe_call (ok_one T) (hr.mono (by decide)) (by rfl) T.g_law_one T.F_law_one.kp (b_law_one T) .nil pass0 (pa_cons (pe_ix ix_list (pv 0) (pv 4) (fun _ _ => rfl)) (pa_cons (pv 4) (pa_cons pe_int pa_nil)))) pa_nil)))))
 (pss_cons (ps_set (i := 5) sc_law.nd rfl (.inl rfl) (pe_call (ok_lsteps T) (hr.mono (by decide)) (by rfl) T.g_law_steps T.F_law_steps.kp (b_law_steps T) .nil pass0 (pa_cons (pv 3) (pa_cons (pv 1) (pa_cons (pe_lst (pa_cons (pv 2) pa_nil)) pa_nil)))))
 (C8.pss_cut (ps_setLc (i := 7) (own := [("_law_step", 6)]) (g := gName 6) (tt := tYes) (by rfl) sc_law.nd rfl rfl (sw_true rfl rfl rfl (by decide +kernel)) (pi_list (pv 5)) (blkOk_by (N := ["_law_script", "_law_marks_here", "_law_name", "_law_draws", "_law_k", "_law_run", "_law_step", "_law_words", "_law_plain", "_law_text", "_law_bad", "_law_spoilt", "_law_at", "_law_later"]) (sc := defScope s_law) (by decide +kernel)) (fun _ _ _ _ _ => pg_name (i := 6) sc_law.nd rfl (Or.inl rfl)) (fun _ _ _ _ _ => pts_nil) (fun _ _ _ _ _ => (pe_op op_add_str (pe_ix ix_str (pe_ix (r := rIxT K) ix_tup (pv 6) pe_int (fun _ _ => rfl)) pe_int (fun _ _ => rfl)) (pe_callTy call_str_int (by rfl) T.n_str (by decide +kernel) (pa_cons (pe_ix (r := rIxT K) ix_tup (pv 6) pe_int (fun _ _ => rfl)) pa_nil)))))
 (pss_cons (ps_set (i := 8) sc_law.nd rfl (.inl rfl) (pe_lst pa_nil))
 (C8.pss_cut (ps_for PassesOwn.never rfl (pi_list (pv 5)) (pg_name (i := 6) sc_law.nd rfl (.inl rfl))
 (pss_one (ps_if (pt_cmpR op_eq (pe_callB call_len_seq (by rfl) T.n_len PySem.boot_len (pa_cons (pv 6) pa_nil)) pe_int (nomark _))
 (pss_one (ps_expr (pe_bm PySem.F.plainAttrs_list PySem.F.slot_list_append PySem.F.type_list_append mt_append (pv 8) (pa_cons (pe_tup (pa_cons (pe_ix ix_tup (pv 6) pe_int (fun _ _ => rfl)) (pa_cons (pe_ix ix_tup (pv 6) pe_int (fun _ _ => rfl)) (pa_cons pe_str pa_nil)))) pa_nil))))
 (pss_one (ps_expr (pe_bm PySem.F.plainAttrs_list PySem.F.slot_list_append PySem.F.type_list_append mt_append (pv 8) (pa_cons (pv 6) pa_nil)))))))
 (pss_cons (ps_set (i := 9) sc_law.nd rfl (.inl rfl) (pe_join pe_str (pv 7)))
 (pss_cons (ps_if (PW.pt (pw_or (pt_not (pt_val (pe_call (ok_same T) (hr.mono (by decide)) (by rfl) T.g_law_same T.F_law_same.kp (b_law_same T) .nil pass0 (pa_cons (pe_call (ok_steps T) (hr.mono (by decide)) (by rfl) T.g_steps_of T.F_steps_of.kp hb0_steps_of rd0_steps_of passL (pa_cons (pv 9) (pa_cons (pv 2) pa_nil))) (pa_cons (pv 5) pa_nil))))) (pw_or1 (pt_not (pt_val (pe_call (ok_same T) (hr.mono (by decide)) (by rfl) T.g_law_same T.F_law_same.kp (b_law_same T) .nil pass0 (pa_cons (pe_call (ok_steps T) (hr.mono (by decide)) (by rfl) T.g_steps_of T.F_steps_of.kp hb1_steps_of rd1_steps_of passL (pa_cons (pv 9) pa_nil)) (pa_cons (pv 8) pa_nil))))))))
 (pss_one (ps_ret pe_bl))
 pss_nil)
 (pss_cons (ps_set (i := 10) sc_law.nd rfl (.inl rfl) (pe_lst (pa_cons pe_str (pa_cons pe_str (pa_cons pe_str (pa_cons pe_str (pa_cons pe_str (pa_cons pe_str (pa_cons pe_str (pa_cons pe_str (pa_cons pe_str (pa_cons pe_str (pa_cons pe_str (pa_cons pe_str (pa_cons pe_str (pa_cons pe_str pa_nil))))))))))))))))
 (pss_cons (ps_set (i := 10) sc_law.nd rfl (.inl rfl) (pe_op op_cat (pv 10) (pe_lst (pa_cons (pe_op op_add_str pe_str (pe_callTy call_str_int (by rfl) T.n_str (by decide +kernel) (pa_cons (pe_op op_add (pe_op op_add (pe_op op_pow pe_int pe_int) pe_int) (pe_op op_mod (pe_callTy call_int1 (by rfl) T.n_int (by decide +kernel) (pa_cons (pe_call (ok_cell T) (hr.mono (by decide)) (by rfl) T.g_law_cell T.F_law_cell.kp (b_law_cell T) .nil pass0 (pa_cons (pv 0) (pa_cons pe_int pa_nil))) pa_nil)) (pe_op op_pow pe_int pe_int))) pa_nil))) (pa_cons pe_str (pa_cons pe_str (pa_cons pe_str (pa_cons pe_str pa_nil))))))))
 (pss_cons (ps_set (i := 11) sc_law.nd rfl (.inl rfl) (pe_callTy call_list_of (by rfl) T.n_list (by decide +kernel) (pa_cons (pv 7) pa_nil)))
 (pss_cons (ps_set (i := 12) sc_law.nd rfl (.inl rfl) (pe_op op_mod (pe_callTy call_int1 (by rfl) T.n_int (by decide +kernel) (pa_cons (pe_call (ok_cell T) (hr.mono (by decide)) (by rfl) T.g_law_cell T.F_law_cell.kp (b_law_cell T) .nil pass0 (pa_cons (pv 0) (pa_cons pe_int pa_nil))) pa_nil)) (pe_op op_add (pe_callB call_len_seq (by rfl) T.n_len PySem.boot_len (pa_cons (pv 7) pa_nil)) pe_int)))
 (pss_cons (ps_expr (pe_bm PySem.F.plainAttrs_list PySem.F.slot_list_insert PySem.F.type_list_insert mt_insert (pv 11) (pa_cons (pv 12) (pa_cons (pe_ix ix_list (pv 10) (pe_op op_mod (pe_callTy call_int1 (by rfl) T.n_int (by decide +kernel) (pa_cons (pe_call (ok_cell T) (hr.mono (by decide)) (by rfl) T.g_law_cell T.F_law_cell.kp (b_law_cell T) .nil pass0 (pa_cons (pv 0) (pa_cons pe_int pa_nil))) pa_nil)) pe_int) (fun _ _ => rfl)) pa_nil))))
 (C8.pss_cut (ps_if (PW.pt (pw_and (pt_cmpR op_eq (pe_callB call_len_seq (by rfl) T.n_len PySem.boot_len (pa_cons (pv 7) pa_nil)) pe_int (nomark _)) (pw_and1 (pt_cmpR op_eq (pe_join pe_str (pv 11)) pe_str (nomark _)))))
 (pss_one (ps_set (i := 11) sc_law.nd rfl (.inl rfl) (pe_lst (pa_cons pe_str (pa_cons pe_str pa_nil)))))
 pss_nil)
 (pss_cons (ps_if (pt_not (pt_val (pe_call (ok_refused T) (hr.mono (by decide)) (by rfl) T.g_law_refused T.F_law_refused.kp (b_law_refused T) .nil pass0 (pa_cons (pe_join pe_str (pv 11)) (pa_cons (pv 12) pa_nil)))))
 (pss_one (ps_ret pe_bl))
 pss_nil)
 (pss_cons (ps_set (i := 13) sc_law.nd rfl (.inl rfl) (pe_op op_add (pe_op op_add (pv 12) pe_int) (pe_op op_mod (pe_callTy call_int1 (by rfl) T.n_int (by decide +kernel) (pa_cons (pe_call (ok_cell T) (hr.mono (by decide)) (by rfl) T.g_law_cell T.F_law_cell.kp (b_law_cell T) .nil pass0 (pa_cons (pv 0) (pa_cons pe_int pa_nil))) pa_nil)) (pe_op op_sub (pe_callB call_len_seq (by rfl) T.n_len PySem.boot_len (pa_cons (pv 11) pa_nil)) (pv 12)))))
 (pss_cons (ps_expr (pe_bm PySem.F.plainAttrs_list PySem.F.slot_list_insert PySem.F.type_list_insert mt_insert (pv 11) (pa_cons (pv 13) (pa_cons (pe_ix ix_list (pv 10) (pe_op op_mod (pe_callTy call_int1 (by rfl) T.n_int (by decide +kernel) (pa_cons (pe_call (ok_cell T) (hr.mono (by decide)) (by rfl) T.g_law_cell T.F_law_cell.kp (b_law_cell T) .nil pass0 (pa_cons (pv 0) (pa_cons pe_int pa_nil))) pa_nil)) pe_int) (fun _ _ => rfl)) pa_nil))))
 (pss_cons (ps_if (pt_not (pt_val (pe_call (ok_refused T) (hr.mono (by decide)) (by rfl) T.g_law_refused T.F_law_refused.kp (b_law_refused T) .nil pass0 (pa_cons (pe_join pe_str (pv 11)) (pa_cons (pv 12) pa_nil)))))
 (pss_one (ps_ret pe_bl))
 pss_nil)
 (pss_one (ps_ret (pe_and (pe_call (ok_same T) (hr.mono (by decide)) (by rfl) T.g_law_same T.F_law_same.kp (b_law_same T) .nil pass0 (pa_cons (pe_call (ok_steps T) (hr.mono (by decide)) (by rfl) T.g_steps_of T.F_steps_of.kp hb0_steps_of rd0_steps_of passL (pa_cons (pv 9) (pa_cons (pv 2) pa_nil))) (pa_cons (pv 5) pa_nil))) (pe_one (pe_call (ok_same T) (hr.mono (by decide)) (by rfl) T.g_law_same T.F_law_same.kp (b_law_same T) .nil pass0 (pa_cons (pe_call (ok_steps T) (hr.mono (by decide)) (by rfl) T.g_steps_of T.F_steps_of.kp hb1_steps_of rd1_steps_of passL (pa_cons pe_str pa_nil)) (pa_cons (pe_lst pa_nil) pa_nil)))))))))))))))))))))))))), ?_⟩
    have one : 1 ≤ sizeLine := by decide
    have two : 2 ≤ sizeLine := by decide
    have three : 3 ≤ sizeLine := by decide
    have p25 : (0 : Int) < 25 := by decide
    -- the marks
    refine ⟨_, rfl, a, ns, 0, rfl, hS, hlen, _, 5, rfl, by decide, fun H1 p ms s1 np hp hl hm => ?_⟩
    refine ⟨_, _, rfl, rfl, ⟨by decide, by decide, by decide⟩, one, fun N1 nN1 => ⟨p, N1, _, _, rfl, rfl, kp nN1 hp, upd_same, by rw [List.length_map, hl]; exact (by decide : 5 + 1 ≤ sizeLine), fun M nM => ?_⟩⟩
    have smM : Same H (upd (upd H1 N1 (.lst [V.int ((10 : Int) ^ (30 : Int).toNat)])) M (.lst (ms.map VN ++ [V.int ((10 : Int) ^ (30 : Int).toNat)]))) := same_new (same_new s1 nN1) nM
    have hM0 : (upd (upd H1 N1 (.lst [V.int ((10 : Int) ^ (30 : Int).toNat)])) M (.lst (ms.map VN ++ [V.int ((10 : Int) ^ (30 : Int).toNat)]))) M = some (.lst ((ms ++ [topN]).map VN)) := by
      rw [upd_same, VN_top]
    have hms : ∀ m ∈ ms ++ [topN], 1 ≤ m ∧ m ≤ topN := by
      intro m h
      rcases List.mem_append.mp h with h | h
      · exact hm m h
      · rw [List.mem_singleton.mp h]
        exact ⟨by decide, Nat.le_refl _⟩
    have lms : (ms ++ [topN]).length = 6 := by rw [List.length_append, hl] <;> rfl
    -- the name
    refine ⟨_, rfl, a, ns, 1, rfl, smM.seq hS, hlen, _, rfl, fun H2 p2 nm nm2 s2 hp2 hok => ⟨p2, _, _, _, rfl, rfl, SqL.of hp2, atI_nat (j := 0) rfl, ?_⟩⟩
    have sm2 := smM.trans s2
    -- the draws
    obtain ⟨n0, en0⟩ := Int.eq_ofNat_of_zero_le (Int.emod_nonneg (ns.getD 3 0 + 9) (Int.ne_of_gt p25))
    have ln0 := Int.emod_lt_of_pos (ns.getD 3 0 + 9) p25
    refine ⟨_, rfl, a, ns, 2, rfl, sm2.seq hS, hlen, _, rfl, a, ns, 3, rfl, sm2.seq hS, hlen, _, _, rfl, rfl, .inl ⟨_, rfl, _, _, rfl, rfl, p25, _, n0, 96, by rw [← en0] <;> rfl, by decide, by decide, by omega, fun H3 D ds s3 nD hD hdl hdd => ?_⟩⟩
    have hD0 : H D = none := sm2.free nD
    have st3 : S1 H H3 M D (ms ++ [topN]) ds := ⟨sm2.trans s3, s3 _ _ (s2 _ _ hM0), hD⟩
    have hDM : D ≠ M := fun e => by rw [e, s2 _ _ hM0] at nD; cases nD
    have lds : ds.length ≤ 24 := by omega
    clear hM0 smM sm2 s1 s2 s3 nM nN1 np hp
    refine ⟨fun σ H' => ∃ (ds : List Int) (v4 : Option V), ds.length ≤ 100 ∧ S1 H H' M D (ms ++ [topN]) ds ∧ σ = [some (.ref a), some (.ref M), some (.str nm), some (.ref D), v4, none, none, none, none, none, none, none, none, none], ?_, ?_⟩
    · refine ⟨_, rfl, a, _, rfl, .inl (st3.sm.seq hS), 4, _, rfl, ⟨by decide, by decide, by rw [List.length_map]; omega, by rw [List.length_map]; omega⟩, ?_⟩
      have et : ((((ns.map V.int).length : Nat) : Int) - 4).toNat = ns.length - 4 := by rw [List.length_map]; omega
      rw [et]
      refine for_range (lo := 4) (n := ns.length - 4) (fun i σ H' => ∃ (ds : List Int) (v4 : Option V), ds.length ≤ 24 + i ∧ S1 H H' M D (ms ++ [topN]) ds ∧ σ = [some (.ref a), some (.ref M), some (.str nm), some (.ref D), v4, none, none, none, none, none, none, none, none, none])
        ⟨ds, none, lds, st3, rfl⟩ ?_ ?_
      · rintro i σ H' hi ⟨ds, v4, hdl, st, rfl⟩
        have e4 : (4 : Int) + (i : Int) = ((4 + i : Nat) : Int) := by omega
        have hlt : 4 + i < ns.length := by omega
        have hat : (ns.map V.int)[4 + i]? = some (.int ns[4 + i]) := by rw [List.getElem?_map, List.getElem?_eq_getElem hlt] <;> rfl
        rw [e4]
        refine ⟨_, rfl, .inl ⟨rfl, _, SqL.of st.hD⟩, _, rfl, _, rfl, a, _, _, _, rfl, rfl, st.sm.seq hS, atI_nat hat, _, rfl, _, _, 96, rfl, by decide, by decide, fun H4 d s4 => ?_⟩
        refine ⟨D, _, _, rfl, rfl, s4 _ _ st.hD, small1000 (by rw [List.length_map]; omega), ds ++ [d], _, by rw [List.length_append]; show ds.length + 1 ≤ _; omega, ⟨?_, ?_, ?_⟩, rfl⟩
        · exact old (st.sm.trans s4) hD0
        · rw [upd_ne hDM.symm]
          exact s4 _ _ st.hM
        · rw [upd_same, List.map_append]
          rfl
      · rintro σ H' ⟨ds, v4, hdl, st, rfl⟩
        exact ⟨ds, v4, by omega, st, rfl⟩
    rintro σ H4 ⟨ds, v4, hdl, st, rfl⟩
    -- the run
    refine ⟨_, rfl, _, rfl, _, rfl, one, fun N2 nN2 => ?_⟩
    have sN := same_new (o := .lst [V.str nm]) (Same.refl H4) nN2
    refine ⟨D, M, N2, ds, _, nm, rfl, SqL.of (sN _ _ st.hD), sN _ _ st.hM, upd_same, by omega, by omega, by omega, hms, fun H5 R L s5 nR run hG hLl => ?_⟩
    have hL : L.length ≤ 100 := by omega
    have sm5 : Same H H5 := (st.sm.trans sN).trans s5
    obtain ⟨qs, r1, r2, r3⟩ := id run
    have at_ : ∀ {i : Nat} {x : V}, (qs.map V.ref)[i]? = some x → ∃ q y, x = .ref q ∧ L[i]? = some y ∧ H5 q = some (.tup (stepV nm y)) := by
      intro i x hi
      rw [List.getElem?_map] at hi
      cases e : qs[i]? with
      | none =>
        rw [e] at hi
        cases hi
      | some q =>
        rw [e] at hi
        have hlt : i < L.length := by
          have := (List.getElem?_eq_some_iff.mp e).1
          omega
        exact ⟨q, L[i], (Option.some.inj hi).symm, List.getElem?_eq_getElem hlt, r3 i q _ e (List.getElem?_eq_getElem hlt)⟩
    -- the words
    refine ⟨fun σ H' => ∃ W, H' W = some (.lst (L.map wv)) ∧ Same H5 H' ∧ σ = [some (.ref a), some (.ref M), some (.str nm), some (.ref D), v4, some (.ref R), none, some (.ref W), none, none, none, none, none, none], ?_, ?_⟩
    · refine ⟨_, rfl, R, rfl, ⟨_, SqL.of r1⟩, fun W nW => lc_list (K := K) (a := R) (xs := qs.map V.ref) (fun i H' => H' W = some (.lst ((L.take i).map wv)) ∧ Same H5 H') ⟨upd_same, same_new (Same.refl H5) nW⟩ (fun i H' _ z => SqL.of (z.2 _ _ r1)) ?_ ?_⟩
      · rintro i x H' hi ⟨hW, sm⟩
        obtain ⟨q, y, rfl, hy, hq⟩ := at_ hi
        have hq' := sm _ _ hq
        obtain ⟨y1, y2⟩ := hG y (List.mem_of_getElem? hy)
        have hlt : i < L.length := (List.getElem?_eq_some_iff.mp hy).1
        have big : topN < 10 ^ 50 := by decide +kernel
        refine ⟨rfl, ?_⟩
        refine ⟨_, rfl, q, _, _, _, rfl, rfl, SqT.of hq', atI_nat (j := 0) (stepV_0 nm y), _, 0, y.1.sg, rfl, rfl, Nat.le_trans (Kd.nm_len y.1).1 (by decide), ?_, _, rfl, q, _, _, _, rfl, rfl, SqT.of hq', atI_nat (j := 1) (stepV_1 nm y), _, rfl, log_of (Nat.lt_of_le_of_lt y2 big), _, _, rfl, rfl, ?_, _, hW, small1000 (by rw [List.length_map, List.length_take]; omega), ?_, ?_⟩
        · exact atI_nat (j := 0) (Kd.sg_nm y.1)
        · have e1 : (⟨#[y.1.sg]⟩ : Str).length = 1 := rfl
          have e2 := num_len (Nat.lt_of_le_of_lt y2 big)
          rw [e1, sizeLine_eq]
          omega
        · rw [upd_same, List.take_add_one, hy, List.map_append]
          have e : wv y = V.str ((⟨#[y.1.sg]⟩ : Str) ++ Str.ofString (toString ((y.2 : Nat) : Int))) := by rw [word_eq]
          show some (HO.lst ((L.take i).map wv ++ [_])) = some (HO.lst ((L.take i).map wv ++ [wv y]))
          rw [e]
        · intro b o z
          rw [upd_ne (ne_of_none z nW)]
          exact sm b o z
      · rintro H' ⟨hW, sm⟩
        rw [List.length_map, r2, List.take_length] at hW
        exact ⟨W, hW, sm, rfl⟩
    rintro σ H6 ⟨W, hW, s6, rfl⟩
    -- the plain run
    refine ⟨Nat.zero_le _, fun PL nPL => ?_⟩
    have nPL5 : H5 PL = none := s6.free nPL
    have hPW : PL ≠ W := fun e => by rw [e, hW] at nPL; cases nPL
    refine ⟨fun σ H' => ∃ v6, IsRun H' PL L "x" ∧ H' W = some (.lst (L.map wv)) ∧ Same H5 H' ∧ σ = [some (.ref a), some (.ref M), some (.str nm), some (.ref D), v4, some (.ref R), v6, some (.ref W), some (.ref PL), none, none, none, none, none], ?_, ?_⟩
    · refine ⟨_, rfl, R, rfl, ⟨_, SqL.of (kp nPL (s6 _ _ r1))⟩, for_list (K := K) (a := R) (xs := qs.map V.ref) (fun i σ H' => ∃ v6, IsRun H' PL (L.take i) "x" ∧ H' W = some (.lst (L.map wv)) ∧ Same H5 H' ∧
        σ = [some (.ref a), some (.ref M), some (.str nm), some (.ref D), v4, some (.ref R), v6, some (.ref W), some (.ref PL), none, none, none, none, none])
        ⟨none, ⟨[], upd_same, rfl, fun i q x h => by simp at h⟩, kp nPL hW, same_new s6 nPL, rfl⟩ (fun i σ H' _ ⟨_, _, _, sm, _⟩ => SqL.of (sm _ _ r1)) ?_ ?_⟩
      · rintro i x σ H' hi ⟨v6, ⟨zs, q1, q2, q3⟩, hW', sm, rfl⟩
        obtain ⟨q, y, rfl, hy, hq⟩ := at_ hi
        have hq' := sm _ _ hq
        have hlt : i < L.length := (List.getElem?_eq_some_iff.mp hy).1
        have lz : (zs.map V.ref).length < sizeLine := small1000 (by rw [List.length_map, q2, List.length_take]; omega)
        have etk : L.take (i + 1) = L.take i ++ [y] := by rw [List.take_add_one, hy] <;> rfl
        refine ⟨_, rfl, q, _, rfl, .inr (SqT.of hq'), rfl, _, rfl, ?_⟩
        cases hk : y.1.has with
        | true =>
          have el : stepV nm y = [.str y.1.nm, .int (y.2 : Int), .str nm] := by unfold stepV; rw [if_pos hk]
          have ex : stepV "x" y = [.str y.1.nm, .int (y.2 : Int), .str "x"] := by unfold stepV; rw [if_pos hk]
          rw [el, decide_eq_true (show V.int (([V.str y.1.nm, .int (y.2 : Int), .str nm] : List V).length : Int) = V.int 3 from rfl)]
          refine iteT ?_
          refine ⟨_, rfl, .inl ⟨rfl, _, SqL.of q1⟩, _, rfl, q, _, _, _, rfl, rfl, SqT.of hq', atI_nat (j := 0) (stepV_0 nm y), _, rfl, q, _, _, _, rfl, rfl, SqT.of hq', atI_nat (j := 1) (stepV_1 nm y), three, fun q2' nq => ⟨PL, _, _, rfl, rfl, kp nq q1, lz, ?_⟩⟩
          have rm := run_more (x := y) q1 q2 q3 (Same.refl H') nq
          rw [ex] at rm
          refine ⟨_, ?_, ?_, ?_, rfl⟩
          · rw [etk]
            exact rm
          · rw [upd_ne hPW.symm]
            exact kp nq hW'
          · intro b o z
            rw [upd_ne (ne_of_none z nPL5)]
            exact kp nq (sm b o z)
        | false =>
          have el : stepV nm y = [.str y.1.nm, .int (y.2 : Int)] := by unfold stepV; rw [if_neg (by rw [hk]; exact Bool.false_ne_true)]
          have ex : stepV "x" y = [.str y.1.nm, .int (y.2 : Int)] := by unfold stepV; rw [if_neg (by rw [hk]; exact Bool.false_ne_true)]
          rw [el, decide_eq_false (show ¬ V.int (([V.str y.1.nm, .int (y.2 : Int)] : List V).length : Int) = V.int 3 from fun e => by cases e)]
          refine iteF ?_
          refine ⟨_, rfl, .inl ⟨rfl, _, SqL.of q1⟩, _, rfl, PL, _, _, rfl, rfl, q1, lz, ?_⟩
          have rm := run_more2 (x := y) (q := q) q1 q2 q3 (Same.refl H') (by rw [ex, ← el]; exact hq')
          refine ⟨_, ?_, ?_, ?_, rfl⟩
          · rw [etk]
            exact rm
          · rw [upd_ne hPW.symm]
            exact hW'
          · intro b o z
            rw [upd_ne (ne_of_none z nPL5)]
            exact sm b o z
      · rintro σ H' ⟨v6, run', hW', sm, rfl⟩
        rw [List.length_map, r2, List.take_length] at run'
        exact ⟨v6, run', hW', sm, rfl⟩
    rintro σ H7 ⟨v6, runX, hW7, s7, rfl⟩
    have run7 := run.same s7
    have sm7 : Same H H7 := sm5.trans s7
    have hWs : H7 W = some (.lst ((L.map word).map V.str)) := by
      rw [hW7, List.map_map]
      rfl
    have hwl : ∀ w ∈ L.map word, w.length ≤ 32 := fun w hw => by
      obtain ⟨x, hx, rfl⟩ := List.mem_map.mp hw
      rw [len_tl, tl_word]
      exact word_len (hG x hx).2
    have hsum := sum_len hwl
    rw [List.length_map] at hsum
    have l1 : (Str.ofString " ").length = 1 := by decide +kernel
    refine ⟨⟨_, rfl⟩, _, rfl, sp, W, L.map word, rfl, rfl, .inl (SqL.of hWs), by rw [List.length_map, l1]; omega, ?_⟩
    refine ⟨_, rfl, _, rfl, ?_⟩
    dsimp only [tNil]
    refine good_v (it := nm) rfl hG hL fun H8 p8 s8 run8 => ⟨_, rfl, p8, R, L, nm, rfl, by omega, hok, run8, run7.same s8, true, rfl, ?_⟩
    refine iteF ?_
    refine ⟨_, rfl, ?_⟩
    dsimp only [tNil]
    refine good_v (it := "x") rfl hG hL fun H9 p9 s9 run9 => ⟨_, rfl, p9, PL, L, "x", rfl, by omega, by decide +kernel, run9, (runX.same s8).same s9, true, rfl, ?_⟩
    refine iteF ?_
    have sm9 : Same H7 H9 := s8.trans s9
    -- the bad words
    have p40 : (0 : Int) < (10 : Int) ^ (40 : Int).toNat := by decide
    have g0 := Int.emod_nonneg (ns.getD 4 0) (Int.ne_of_gt p40)
    have g1 := Int.emod_lt_of_pos (ns.getD 4 0) p40
    have t30 : (0 : Int) ≤ (10 : Int) ^ (30 : Int).toNat := by decide
    obtain ⟨m, em⟩ := Int.eq_ofNat_of_zero_le (show 0 ≤ (10 : Int) ^ (30 : Int).toNat + 1 + ns.getD 4 0 % (10 : Int) ^ (40 : Int).toNat by omega)
    have m1 : topN < m := by
      have e : (10 : Int) ^ (30 : Int).toNat = (topN : Int) := by decide
      rw [e] at em
      omega
    have m2 : m < 10 ^ 45 := by
      have e : (10 : Int) ^ (30 : Int).toNat + 1 + (10 : Int) ^ (40 : Int).toNat ≤ ((10 ^ 45 : Nat) : Int) := by decide +kernel
      omega
    have m3 : m < 10 ^ 50 := Nat.lt_of_lt_of_le m2 (by decide +kernel)
    have hS9 : SqL K H9 a (ns.map V.int) := (sm7.trans sm9).seq hS
    refine ⟨by show 14 ≤ sizeLine; decide, fun B1 nB1 => ?_⟩
    have sB1 := same_new (o := .lst [V.str "w", .str "7", .str "W2", .str "x2", .str "w02", .str "r0", .str "c-1", .str "a+1", .str "w2x", .str "2w", .str "ww2", .str "r1_0", .str "c1.0", .str "w1\n"]) (Same.refl H9) nB1
    refine ⟨_, rfl, _, _, rfl, rfl, ⟨by decide, by decide, by decide⟩, _, _, rfl, rfl, _, rfl, a, ns, 4, rfl, sB1.seq hS9, hlen, .inl ⟨_, rfl, _, _, rfl, rfl, ⟨by decide, by decide, by decide⟩, _, _, rfl, rfl, p40, _, _, rfl, rfl, _, rfl, ?_, _, _, rfl, rfl, ?_, by show 5 ≤ sizeLine; decide, fun B2 nB2 => ⟨B1, B2, _, _, rfl, rfl, kp nB2 upd_same, upd_same, by show 19 ≤ sizeLine; decide, fun BL nBL => ?_⟩⟩⟩
    · show ((10 : Int) ^ (30 : Int).toNat + 1 + ns.getD 4 0 % (10 : Int) ^ (40 : Int).toNat).natAbs.log2 < 1920
      rw [em]
      exact log_of m3
    · show (Str.ofString "r").length + (Str.ofString (toString ((10 : Int) ^ (30 : Int).toNat + 1 + ns.getD 4 0 % (10 : Int) ^ (40 : Int).toNat))).length ≤ sizeLine
      rw [em]
      have e1 : (Str.ofString "r").length = 1 := by decide +kernel
      have e2 := num_len m3
      have e3 : (Str.ofString (toString (Int.ofNat m))).length ≤ 50 := e2
      rw [e1, sizeLine_eq]
      omega
    have sBL : Same H9 _ := same_new (o := .lst ([V.str "w", .str "7", .str "W2", .str "x2", .str "w02", .str "r0", .str "c-1", .str "a+1", .str "w2x", .str "2w", .str "ww2", .str "r1_0", .str "c1.0", .str "w1\n"] ++ [V.str (Str.ofString "r" ++ Str.ofString (toString ((10 : Int) ^ (30 : Int).toNat + 1 + ns.getD 4 0 % (10 : Int) ^ (40 : Int).toNat))), .str "write", .str "", .str "w 2", .str "a00"]))
      (same_new (o := .lst [V.str (Str.ofString "r" ++ Str.ofString (toString ((10 : Int) ^ (30 : Int).toNat + 1 + ns.getD 4 0 % (10 : Int) ^ (40 : Int).toNat))), .str "write", .str "", .str "w 2", .str "a00"]) sB1 nB2) nBL
    have hBL0 : ∀ H' : Hp, (upd H' BL (.lst ([V.str "w", .str "7", .str "W2", .str "x2", .str "w02", .str "r0", .str "c-1", .str "a+1", .str "w2x", .str "2w", .str "ww2", .str "r1_0", .str "c1.0", .str "w1\n"] ++ [V.str (Str.ofString "r" ++ Str.ofString (toString ((10 : Int) ^ (30 : Int).toNat + 1 + ns.getD 4 0 % (10 : Int) ^ (40 : Int).toNat))), .str "write", .str "", .str "w 2", .str "a00"]))) BL =
        some (.lst ((bads ++ [Str.ofString "r" ++ Str.ofString (toString ((10 : Int) ^ (30 : Int).toNat + 1 + ns.getD 4 0 % (10 : Int) ^ (40 : Int).toNat)), "write", "", "w 2", "a00"]).map V.str)) := fun H' => by
      rw [upd_same]
      rfl
    have ers : Str.ofString "r" ++ Str.ofString (toString ((10 : Int) ^ (30 : Int).toNat + 1 + ns.getD 4 0 % (10 : Int) ^ (40 : Int).toNat)) = (⟨(114 :: numL m).toArray⟩ : Str) := by
      rw [em]
      refine ext_tl ?_
      rw [tl_append]
      have e1 : tl (Str.ofString "r") = [114] := by decide +kernel
      rw [e1, tl_num] <;> rfl
    have hBad : ∀ b ∈ bads ++ [Str.ofString "r" ++ Str.ofString (toString ((10 : Int) ^ (30 : Int).toNat + 1 + ns.getD 4 0 % (10 : Int) ^ (40 : Int).toNat)), "write", "", "w 2", "a00"], BadW b := by
      intro b hb
      rcases List.mem_append.mp hb with hb | hb
      · exact bads_bad b hb
      · rw [ers] at hb
        simp only [List.mem_cons, List.not_mem_nil, or_false] at hb
        rcases hb with rfl | rfl | rfl | rfl | rfl
        · exact bad_big m1 m2
        · exact bad_write
        · exact bad_empty
        · exact bad_w2
        · exact bad_a00
    have hBL := hBL0 (upd (upd H9 B1 (.lst [V.str "w", .str "7", .str "W2", .str "x2", .str "w02", .str "r0", .str "c-1", .str "a+1", .str "w2x", .str "2w", .str "ww2", .str "r1_0", .str "c1.0", .str "w1\n"])) B2 (.lst [V.str (Str.ofString "r" ++ Str.ofString (toString ((10 : Int) ^ (30 : Int).toNat + 1 + ns.getD 4 0 % (10 : Int) ^ (40 : Int).toNat))), .str "write", .str "", .str "w 2", .str "a00"]))
    obtain ⟨BLs, eBLs⟩ : ∃ BLs, BLs = bads ++ [Str.ofString "r" ++ Str.ofString (toString ((10 : Int) ^ (30 : Int).toNat + 1 + ns.getD 4 0 % (10 : Int) ^ (40 : Int).toNat)), "write", "", "w 2", "a00"] := ⟨_, rfl⟩
    have lBL : BLs.length = 19 := by rw [eBLs] <;> rfl
    rw [← eBLs] at hBL hBad
    have pick : ∀ x : Int, ∃ b, BadW b ∧ atI (BLs.map V.str) (x % 19) = some (.str b) := by
      intro x
      have p19 : (0 : Int) < 19 := by decide
      obtain ⟨j, ej⟩ := Int.eq_ofNat_of_zero_le (Int.emod_nonneg x (Int.ne_of_gt p19))
      have hj := Int.emod_lt_of_pos x p19
      have hj2 : j < BLs.length := by rw [lBL]; omega
      refine ⟨BLs[j], hBad _ (List.getElem_mem hj2), ?_⟩
      rw [ej]
      exact atI_nat (by rw [List.getElem?_map, List.getElem?_eq_getElem hj2] <;> rfl)
    have hWc := sBL _ _ (sm9 _ _ hWs)
    have smc : Same H _ := (sm7.trans sm9).trans sBL
    have smc5 : Same H7 _ := sm9.trans sBL
    -- the first bad word
    refine ⟨_, rfl, W, _, rfl, .inl (SqL.of hWc), fun SP nSP => ?_⟩
    have sS := same_new (o := .lst ((L.map word).map V.str)) (Same.refl _) nSP
    have lW : (((L.map word).map V.str).length : Int) = (L.length : Int) := by rw [List.length_map, List.length_map]
    have pAt : (0 : Int) < (((L.map word).map V.str).length : Int) + 1 := by omega
    obtain ⟨at', eat⟩ := Int.eq_ofNat_of_zero_le (Int.emod_nonneg (ns.getD 5 0) (Int.ne_of_gt pAt))
    have lat := Int.emod_lt_of_pos (ns.getD 5 0) pAt
    have hat : at' ≤ L.length := by rw [eat, lW] at lat; omega
    obtain ⟨b1, hb1, eb1⟩ := pick (ns.getD 6 0)
    have p19 : (0 : Int) < 19 := by decide
    refine ⟨_, rfl, a, ns, 5, rfl, (smc.trans sS).seq hS, hlen, .inl ⟨_, rfl, _, rfl, W, _, rfl, .inl (SqL.of (sS _ _ hWc)), _, _, rfl, rfl, _, _, rfl, rfl, pAt, ?_⟩⟩
    refine ⟨_, rfl, .inl ⟨rfl, _, SqL.of upd_same⟩, _, rfl, _, rfl, _, rfl, a, ns, 6, rfl, (smc.trans sS).seq hS, hlen, .inl ⟨_, rfl, _, _, rfl, rfl, p19, BL, _, _, _, rfl, rfl, SqL.of (sS _ _ hBL), eb1, SP, _, _, _, rfl, rfl, upd_same, small1000 (by rw [List.length_map, List.length_map]; omega), ?_, ?_, ?_⟩⟩
    · show 0 ≤ ns.getD 5 0 % ((((L.map word).map V.str).length : Int) + 1)
      rw [eat]
      exact Int.natCast_nonneg _
    · show ns.getD 5 0 % ((((L.map word).map V.str).length : Int) + 1) < 2 ^ 63
      rw [eat]
      show (at' : Int) < _
      omega
    have edc : (ns.getD 5 0 % ((((L.map word).map V.str).length : Int) + 1)).toNat = at' := by rw [eat] <;> rfl
    have ews : ((L.map word).map V.str).take (ns.getD 5 0 % ((((L.map word).map V.str).length : Int) + 1)).toNat ++ [V.str b1] ++ ((L.map word).map V.str).drop (ns.getD 5 0 % ((((L.map word).map V.str).length : Int) + 1)).toNat = ((L.take at').map word ++ b1 :: (L.map word).drop at').map V.str := by
      rw [edc, List.append_assoc, List.map_append, List.map_cons, List.map_take, List.map_take, List.map_drop]
      rfl
    have hpost : ∀ w ∈ (L.map word).drop at', w.length ≤ 100 := fun w hw => Nat.le_trans (hwl w (List.mem_of_mem_drop hw)) (by decide)
    have lpost : ((L.map word).drop at').length ≤ 100 := by rw [List.length_drop, List.length_map]; omega
    have hGt : Good (L.take at') := fun x hx => hG x (List.mem_of_mem_take hx)
    have lt' : (L.take at').length = at' := by rw [List.length_take]; omega
    refine ⟨fun σ H' => ∃ (SP : Addr) (b1 : Str) (post : List Str), BadW b1 ∧ post.length ≤ 110 ∧ (∀ w ∈ post, w.length ≤ 100) ∧ tl (Txt.join sp ((L.take at').map word ++ b1 :: post)) ≠ [] ∧ H' SP = some (.lst (((L.take at').map word ++ b1 :: post).map V.str)) ∧ H7 SP = none ∧ SP ≠ BL ∧
      Same H7 H' ∧ H' BL = some (.lst (BLs.map V.str)) ∧
      σ = [some (.ref a), some (.ref M), some (.str nm), some (.ref D), v4, some (.ref R), v6, some (.ref W), some (.ref PL), some (.str (Txt.join sp (L.map word))), some (.ref BL), some (.ref SP), some (.int (ns.getD 5 0 % ((((L.map word).map V.str).length : Int) + 1))), none], ?_, ?_⟩
    · have nSP7 : H7 SP = none := smc5.free nSP
      have hSB : SP ≠ BL := fun e => by rw [e, hBL] at nSP; cases nSP
      have keepB : ∀ {H0 : Hp} {o o' : HO}, H0 BL = some o' → (upd H0 SP o) BL = some o' := fun {H0 o o'} h => by
        rw [upd_ne hSB.symm]
        exact h
      have sI : Same H7 _ := old (D := SP) (o := .lst (((L.map word).map V.str).take (ns.getD 5 0 % ((((L.map word).map V.str).length : Int) + 1)).toNat ++ [V.str b1] ++ ((L.map word).map V.str).drop (ns.getD 5 0 % ((((L.map word).map V.str).length : Int) + 1)).toNat)) (smc5.trans sS) nSP7
      refine ⟨_, rfl, W, _, rfl, .inl (SqL.of (sI _ _ hWs)), rfl, _, rfl, ?_⟩
      by_cases hL0 : L = []
      · have ea : at' = 0 := by rw [hL0] at hat; exact Nat.le_zero.mp hat
        have e1 : (L.take at').map word ++ b1 :: (L.map word).drop at' = [b1] := by rw [hL0] <;> simp
        rw [e1] at ews
        have hone : ∀ H0 : Hp, upd (upd H0 SP (.lst ((L.map word).map V.str))) SP (.lst (((L.map word).map V.str).take (ns.getD 5 0 % ((((L.map word).map V.str).length : Int) + 1)).toNat ++ [V.str b1] ++ ((L.map word).map V.str).drop (ns.getD 5 0 % ((((L.map word).map V.str).length : Int) + 1)).toNat)) SP = some (.lst (([b1] : List Str).map V.str)) := by
          intro H0
          rw [upd_same, ews]
        have e0 : V.int ((((L.map word).map V.str).length : Nat) : Int) = V.int 0 := by rw [hL0] <;> rfl
        rw [decide_eq_true e0]
        refine iteT ?_
        have lb : (b1 : Str).length ≤ 100 := hb1.1
        have l0 : (Str.ofString "").length = 0 := by decide +kernel
        have ej : Txt.join (Str.ofString "") [b1] = b1 := by rw [join_eq] <;> rfl
        refine ⟨⟨_, rfl⟩, _, rfl, Str.ofString "", SP, [b1], rfl, rfl, .inl (SqL.of (hone _)), by rw [l0]; show b1.length + 0 + 1 * 0 ≤ _; omega, rfl, _, rfl, ?_⟩
        rw [ej]
        by_cases hbe : V.str b1 = V.str (Str.ofString "")
        · rw [decide_eq_true hbe]
          refine iteT ⟨two, fun S2 nS2 => ?_⟩
          refine ⟨S2, "", [""], bad_empty, by decide, fun w hw => ?_, ?_, ?_, ?_, ?_, ?_, ?_, rfl⟩
          · rw [List.mem_singleton.mp hw]
            decide +kernel
          · rw [ea]
            exact join_ne (by simp)
          · rw [upd_same, ea]
            rfl
          · exact sI.free nS2
          · intro e
            have z := keepB (o := .lst (((L.map word).map V.str).take (ns.getD 5 0 % ((((L.map word).map V.str).length : Int) + 1)).toNat ++ [V.str b1] ++ ((L.map word).map V.str).drop (ns.getD 5 0 % ((((L.map word).map V.str).length : Int) + 1)).toNat)) (sS _ _ hBL)
            rw [e, z] at nS2
            cases nS2
          · exact same_new sI nS2
          · refine kp nS2 ?_
            rw [upd_ne hSB.symm]
            exact sS _ _ hBL
        · rw [decide_eq_false hbe]
          refine iteF ?_
          refine ⟨SP, b1, (L.map word).drop at', hb1, by omega, hpost, ?_, ?_, nSP7, hSB, sI, ?_, rfl⟩
          · rw [e1, tl_joinS]
            intro e
            exact hbe (by rw [show b1 = Str.ofString "" from ext_tl (by rw [show tl b1 = [] from e]; decide +kernel)])
          · rw [e1]
            exact hone _
          · rw [upd_ne hSB.symm]
            exact sS _ _ hBL
      · have e0 : ¬ V.int ((((L.map word).map V.str).length : Nat) : Int) = V.int 0 := by
          intro e
          have e2 := V.int.inj e
          rw [lW] at e2
          exact hL0 (List.length_eq_zero_iff.mp (by omega))
        rw [decide_eq_false e0]
        refine iteF ?_
        refine iteF ?_
        refine ⟨SP, b1, (L.map word).drop at', hb1, by omega, hpost, ?_, ?_, nSP7, hSB, sI, ?_, rfl⟩
        · refine join_ne ?_
          have : 0 < L.length := by
            rcases Nat.eq_zero_or_pos L.length with h | h
            · exact absurd (List.length_eq_zero_iff.mp h) hL0
            · exact h
          rw [List.length_append, List.length_map, lt', List.length_cons, List.length_drop, List.length_map]
          omega
        · rw [upd_same, ews]
        · rw [upd_ne hSB.symm]
          exact sS _ _ hBL
    rintro σ H10 ⟨SP, b1, post, hb1, hp1, hp2, hne1, hSPc, nSP7, hSB, s10, hBL10, rfl⟩
    rw [eat]
    have wsl : ∀ {b : Str} {post : List Str}, BadW b → (∀ w ∈ post, w.length ≤ 100) → ∀ w ∈ (L.take at').map word ++ b :: post, w.length ≤ 100 := by
      intro b post hb hp w hw
      rcases List.mem_append.mp hw with hw | hw
      · obtain ⟨x, hx, rfl⟩ := List.mem_map.mp hw
        exact Nat.le_trans (hwl _ (List.mem_map.mpr ⟨x, List.mem_of_mem_take hx, rfl⟩)) (by decide)
      · rcases List.mem_cons.mp hw with rfl | hw
        · exact hb.1
        · exact hp w hw
    have wln : ∀ {b : Str} {post : List Str}, ((L.take at').map word ++ b :: post).length = at' + 1 + post.length := by
      intro b post
      rw [List.length_append, List.length_map, lt', List.length_cons]
      omega
    have bnd : ∀ {b : Str} {post : List Str}, BadW b → post.length ≤ 120 → (∀ w ∈ post, w.length ≤ 100) → ((((L.take at').map word ++ b :: post)).map (·.length)).sum + ((L.take at').map word ++ b :: post).length * (Str.ofString " ").length ≤ 16777216 := by
      intro b post hb hp hpl
      have h1 := sum_len (wsl hb hpl)
      rw [wln] at h1
      rw [wln, l1]
      omega
    have refd : ∀ {b : Str} {post : List Str} {H' : Hp} {Q' : VK}, BadW b → post.length ≤ 120 → (∀ w ∈ post, w.length ≤ 100) → tl (Txt.join sp ((L.take at').map word ++ b :: post)) ≠ [] → (∀ H2, Same H' H2 → Q' (.bl true) H2) →
        spRef [.str (Txt.join sp ((L.take at').map word ++ b :: post)), .int (at' : Int)] H' Q' E0 := by
      intro b post H' Q' hb hp hpl hne hk
      exact ⟨L.take at', b, post, by rw [lt'], hGt, by omega, hb, by omega, hpl, hne, hk⟩
    refine ⟨⟨_, rfl⟩, _, rfl, sp, SP, (L.take at').map word ++ b1 :: post, rfl, rfl, .inl (SqL.of hSPc), bnd hb1 (by omega) hp2, _, rfl, ?_⟩
    dsimp only [tNil]
    refine refd hb1 (by omega) hp2 hne1 fun H11 s11 => ⟨true, rfl, ?_⟩
    refine iteF ?_
    have hSP11 := s11 _ _ hSPc
    have s711 := s10.trans s11
    have sq11 : SqL K H11 a (ns.map V.int) := (sm7.trans s711).seq hS
    have lSP : (((((L.take at').map word ++ b1 :: post)).map V.str).length : Int) = (at' : Int) + 1 + (post.length : Int) := by
      rw [List.length_map, wln]
      omega
    have pLt : (0 : Int) < (((((L.take at').map word ++ b1 :: post)).map V.str).length : Int) - (at' : Int) := by omega
    refine ⟨_, rfl, _, _, rfl, rfl, _, rfl, a, ns, 7, rfl, sq11, hlen, .inl ⟨_, rfl, _, rfl, SP, _, rfl, .inl (SqL.of hSP11), _, rfl, _, _, rfl, rfl, _, _, rfl, rfl, pLt, _, _, rfl, rfl, ?_⟩⟩
    obtain ⟨r, er⟩ := Int.eq_ofNat_of_zero_le (Int.emod_nonneg (ns.getD 7 0) (Int.ne_of_gt pLt))
    have lr := Int.emod_lt_of_pos (ns.getD 7 0) pLt
    have hr' : r ≤ post.length := by rw [er, lSP] at lr; omega
    obtain ⟨b2, hb2, eb2⟩ := pick (ns.getD 8 0)
    refine ⟨_, rfl, .inl ⟨rfl, _, SqL.of hSP11⟩, _, rfl, _, rfl, _, rfl, a, ns, 8, rfl, sq11, hlen, .inl ⟨_, rfl, _, _, rfl, rfl, p19, BL, _, _, _, rfl, rfl, SqL.of (s11 _ _ hBL10), eb2, SP, _, _, _, rfl, rfl, hSP11, small1000 (by rw [List.length_map, wln]; omega), ?_, ?_, ?_⟩⟩
    · show 0 ≤ (at' : Int) + 1 + ns.getD 7 0 % ((((((L.take at').map word ++ b1 :: post)).map V.str).length : Int) - (at' : Int))
      rw [er]
      omega
    · show (at' : Int) + 1 + ns.getD 7 0 % ((((((L.take at').map word ++ b1 :: post)).map V.str).length : Int) - (at' : Int)) < 2 ^ 63
      rw [er]
      omega
    have edr : ((at' : Int) + 1 + ns.getD 7 0 % ((((((L.take at').map word ++ b1 :: post)).map V.str).length : Int) - (at' : Int))).toNat = ((L.take at').map word).length + 1 + r := by
      rw [er, List.length_map, lt']
      omega
    have ews2 : (((L.take at').map word ++ b1 :: post).map V.str).take ((at' : Int) + 1 + ns.getD 7 0 % ((((((L.take at').map word ++ b1 :: post)).map V.str).length : Int) - (at' : Int))).toNat ++ [V.str b2] ++ (((L.take at').map word ++ b1 :: post).map V.str).drop ((at' : Int) + 1 + ns.getD 7 0 % ((((((L.take at').map word ++ b1 :: post)).map V.str).length : Int) - (at' : Int))).toNat =
        (((L.take at').map word) ++ b1 :: (post.take r ++ b2 :: post.drop r)).map V.str := by
      rw [edr, map_ins, ins_split]
    have hp3 : ∀ w ∈ post.take r ++ b2 :: post.drop r, w.length ≤ 100 := by
      intro w hw
      rcases List.mem_append.mp hw with hw | hw
      · exact hp2 w (List.mem_of_mem_take hw)
      · rcases List.mem_cons.mp hw with rfl | hw
        · exact hb2.1
        · exact hp2 w (List.mem_of_mem_drop hw)
    have lp3 : (post.take r ++ b2 :: post.drop r).length ≤ 120 := by
      rw [List.length_append, List.length_cons, List.length_take, List.length_drop]
      omega
    have hne2 : tl (Txt.join sp ((L.take at').map word ++ b1 :: (post.take r ++ b2 :: post.drop r))) ≠ [] := by
      refine join_ne ?_
      rw [wln, List.length_append, List.length_cons]
      omega
    have s12 : Same H7 _ := old (D := SP) (o := .lst ((((L.take at').map word ++ b1 :: post).map V.str).take ((at' : Int) + 1 + ns.getD 7 0 % ((((((L.take at').map word ++ b1 :: post)).map V.str).length : Int) - (at' : Int))).toNat ++ [V.str b2] ++ (((L.take at').map word ++ b1 :: post).map V.str).drop ((at' : Int) + 1 + ns.getD 7 0 % ((((((L.take at').map word ++ b1 :: post)).map V.str).length : Int) - (at' : Int))).toNat)) s711 nSP7
    refine ⟨⟨_, rfl⟩, _, rfl, sp, SP, (L.take at').map word ++ b1 :: (post.take r ++ b2 :: post.drop r), rfl, rfl, .inl (SqL.of (by rw [upd_same, ews2])), bnd hb1 lp3 hp3, _, rfl, ?_⟩
    dsimp only [tNil]
    refine refd hb1 lp3 hp3 hne2 fun H13 s13 => ⟨true, rfl, ?_⟩
    refine iteF ?_
    have s713 := s12.trans s13
    -- the end
    refine ⟨_, rfl, _, rfl, ?_⟩
    dsimp only [tNil]
    refine good_v (it := nm) rfl hG hL fun H14 p14 s14 run14 => ⟨_, rfl, p14, R, L, nm, rfl, by omega, hok, run14, run7.same (s713.trans s14), true, rfl, ?_⟩
    refine iteT ?_
    have hnil : Good ([] : List (Kd × Nat)) := fun _ h => by cases h
    dsimp only [tCall, tCons, tC, tNil, tLst]
    have e0 : Txt.join sp (([] : List (Kd × Nat)).map word) = "" := by decide +kernel
    refine good_v (L := []) (it := "x") (by rw [e0] <;> rfl) hnil (by decide) fun H15 p15 s15 run15 => ⟨Nat.zero_le _, fun E1 nE1 => ?_⟩
    exact ⟨p15, E1, [], "x", rfl, by decide, by decide +kernel, run15.same (same_new (Same.refl H15) nE1), ⟨[], upd_same, rfl, fun i q x h => by simp at h⟩, k _⟩
end
end K09

namespace K09
open PySem L2
theorem walk {l : PySem.W.OpenLaw} {q : Program} {loose : List Str} {XP : (Str → Option Value) → Heap → Prop} {YP : World → Heap → Prop} {d : DefRec} {K : Params → PySem.W.Frag} (hn : l.most = some 63) (hdf : d.params.defaults = [])
    (hY : ∀ (w : World) (h : Heap), YP w h → (K w.params).In h)
    (F : ∀ (w : World) (mg : Str → Option Value) (fa : Addr) (h : Heap), (K w.params).In h → h.Ns mainGlobals mg → mg d.name = some (.ref fa) →
      ∃ fd : FuncData, (∀ (s : Shared) (u : Value), BindsTo s fd ⟨[u], []⟩ [("_law_script", u)]) ∧ ∀ base : Heap, (K w.params).In base → base.Ns mainGlobals mg → FnOk l.prog w (K w.params) mg base CX0 9 fa fd ["_law_script"] (spLaw (K w.params))) :
    PySem.W.WalkO q loose XP YP l.row.toRowW d [] (fun f vs => PySem.call f vs) :=
  L2.walk_of (n := 63) (k := 9) (x := "_law_script") (CX := fun _ => CX0) (sp := fun w => spLaw (K w.params)) hn (by decide) hdf ⟨rfl, by decide, by decide⟩ hY F (fun _ _ a ns hl _ hS => ⟨a, ns, rfl, hS, hl, fun _ => rfl⟩) fun _ _ _ _ _ z => z
theorem law_fd {w : World} {K : PySem.W.Frag} {mg : Str → Option Value} (T : Txt w K mg) : ∀ (s : Shared) (u : Value), BindsTo s T.d_law ⟨[u], []⟩ [("_law_script", u)] := by
  obtain ⟨⟨oc, od, kV, doc, pm, an, cdv, ct, osl, e, lk, hcd⟩, _⟩ := T.F_law
  rw [e]
  exact fun s u => .of_eq rfl
theorem fin {w : World} {K : PySem.W.Frag} {mg : Str → Option Value} {fa : Addr} (A : ∃ T : Txt w K mg, T.f_law = fa) : ∃ fd : FuncData, (∀ (s : Shared) (u : Value), BindsTo s fd ⟨[u], []⟩ [("_law_script", u)]) ∧ ∀ base : Heap, K.In base → base.Ns mainGlobals mg →
    FnOk PySem.Challenge.rw_stamprules_k09_short_texts.prog w K mg base CX0 9 fa fd ["_law_script"] (spLaw K) := by
  obtain ⟨T, e⟩ := A
  subst e
  exact ⟨T.d_law, law_fd T, fun base _ _ => ok_law T⟩
end K09
open PySem PySem.W PyProof.Rows
set_option maxRecDepth 100000 in
set_option maxHeartbeats 0 in
theorem PySem.Challenge.cw_stamprules_k09_short_texts_holds : PySem.Challenge.rw_stamprules_k09_short_texts.Holds := by
  w_on; o_law; k_head; (case hw => w_witness2)
  k_fill
  refine K09.walk (l := PySem.Challenge.rw_stamprules_k09_short_texts) rfl rfl (fun w h Y => PySem.W.kIn_of Y) ?F
  case F =>
    intro w mg fa h KX G hmg
    refine' K09.fin (K09.all_mk (w := w) KX G hmg ?z_hn ?z_ht ?gc_StampError ?kc_StampError ?gc_BadStamp ?kc_BadStamp ?gc_BadStep ?kc_BadStep ?xl_StampError ?sa_StampError ?xb_StampError ?xt_StampError ?ga_StampError ?gg_StampError ?hd_StampError ?ha_StampError ?hm_StampError ?sb_StampError_StampError ?ko_StampError_StampError ?sb_StampError_BadStamp ?ko_StampError_BadStamp ?sb_StampError_BadStep ?ko_StampError_BadStep ?kv_StampError ?xl_BadStamp ?sa_BadStamp ?xb_BadStamp ?xt_BadStamp ?ga_BadStamp ?gg_BadStamp ?hd_BadStamp ?ha_BadStamp ?hm_BadStamp ?sb_BadStamp_StampError ?ko_BadStamp_StampError ?sb_BadStamp_BadStamp ?ko_BadStamp_BadStamp ?sb_BadStamp_BadStep ?ko_BadStamp_BadStep ?kv_BadStamp ?na_BadStamp_given ?xl_BadStep ?sa_BadStep ?xb_BadStep ?xt_BadStep ?ga_BadStep ?gg_BadStep ?hd_BadStep ?ha_BadStep ?hm_BadStep ?sb_BadStep_StampError ?ko_BadStep_StampError ?sb_BadStep_BadStamp ?ko_BadStep_BadStamp ?sb_BadStep_BadStep ?ko_BadStep_BadStep ?kv_BadStep ?na_BadStep_index ?a_BadStamp_init ?l_BadStamp_init ?c_BadStamp_init ?cl_BadStamp_init ?cv_BadStamp_init ?cw_BadStamp_init ?cx_BadStamp_init ?tp_BadStamp_init ?su_BadStamp_init ?ve_BadStamp_init ?md_BadStamp_init ?ti_BadStamp_init ?z_th ?z_su ?a_BadStep_init ?l_BadStep_init ?c_BadStep_init ?cl_BadStep_init ?cv_BadStep_init ?cw_BadStep_init ?cx_BadStep_init ?tp_BadStep_init ?su_BadStep_init ?ve_BadStep_init ?md_BadStep_init ?ti_BadStep_init ?a_steps_of ?l_steps_of ?c_steps_of ?k_steps_of ?T1_steps_of ?a_is_numeral ?l_is_numeral ?c_is_numeral ?k_is_numeral ?a_law_cell ?l_law_cell ?c_law_cell ?k_law_cell ?a_law_row ?l_law_row ?c_law_row ?k_law_row ?a_law_marks ?l_law_marks ?c_law_marks ?k_law_marks ?a_law_names ?l_law_names ?c_law_names ?k_law_names ?a_law_steps ?l_law_steps ?c_law_steps ?k_law_steps ?a_law_one ?l_law_one ?c_law_one ?k_law_one ?a_law_same ?l_law_same ?c_law_same ?k_law_same ?a_law_refused ?l_law_refused ?c_law_refused ?k_law_refused ?a_law ?l_law ?c_law ?k_law ?gv_GREATEST ?gv_DIGITS ?gv_MOST_DIGITS ?gv_WORDS ?dl_WORDS ?dk_WORDS ?ds_WORDS ?n_ValueError ?n_all ?n_bool ?n_enumerate ?n_int ?n_isinstance ?n_len ?n_list ?n_range ?n_str ?n_super ?n_tuple)
    (case z_hn => k_is)
    (case z_ht => k_is)
    (case gc_StampError => k_is)
    (case kc_StampError => k_is)
    (case gc_BadStamp => k_is)
    (case kc_BadStamp => k_is)
    (case gc_BadStep => k_is)
    (case kc_BadStep => k_is)
    (case xl_StampError => k_is)
    (case sa_StampError => k_is)
    (case xb_StampError => k_is)
    (case xt_StampError => k_is)
    (case ga_StampError => k_is)
    (case gg_StampError => k_is)
    (case hd_StampError => k_is)
    (case ha_StampError => k_is)
    (case hm_StampError => k_is)
    (case sb_StampError_StampError => first | rfl | k_is)
    (case ko_StampError_StampError => first | rfl | k_is)
    (case sb_StampError_BadStamp => first | rfl | k_is)
    (case ko_StampError_BadStamp => first | rfl | k_is)
    (case sb_StampError_BadStep => first | rfl | k_is)
    (case ko_StampError_BadStep => first | rfl | k_is)
    (case kv_StampError => first | rfl | k_is)
    (case xl_BadStamp => k_is)
    (case sa_BadStamp => k_is)
    (case xb_BadStamp => k_is)
    (case xt_BadStamp => k_is)
    (case ga_BadStamp => k_is)
    (case gg_BadStamp => k_is)
    (case hd_BadStamp => k_is)
    (case ha_BadStamp => k_is)
    (case hm_BadStamp => k_is)
    (case sb_BadStamp_StampError => first | rfl | k_is)
    (case ko_BadStamp_StampError => first | rfl | k_is)
    (case sb_BadStamp_BadStamp => first | rfl | k_is)
    (case ko_BadStamp_BadStamp => first | rfl | k_is)
    (case sb_BadStamp_BadStep => first | rfl | k_is)
    (case ko_BadStamp_BadStep => first | rfl | k_is)
    (case kv_BadStamp => first | rfl | k_is)
    (case na_BadStamp_given => k_is)
    (case xl_BadStep => k_is)
    (case sa_BadStep => k_is)
    (case xb_BadStep => k_is)
    (case xt_BadStep => k_is)
    (case ga_BadStep => k_is)
    (case gg_BadStep => k_is)
    (case hd_BadStep => k_is)
    (case ha_BadStep => k_is)
    (case hm_BadStep => k_is)
    (case sb_BadStep_StampError => first | rfl | k_is)
    (case ko_BadStep_StampError => first | rfl | k_is)
    (case sb_BadStep_BadStamp => first | rfl | k_is)
    (case ko_BadStep_BadStamp => first | rfl | k_is)
    (case sb_BadStep_BadStep => first | rfl | k_is)
    (case ko_BadStep_BadStep => first | rfl | k_is)
    (case kv_BadStep => first | rfl | k_is)
    (case na_BadStep_index => k_is)
    (case a_BadStamp_init => k_is)
    (case l_BadStamp_init => k_is)
    (case c_BadStamp_init => k_is)
    (case cl_BadStamp_init => k_is)
    (case cv_BadStamp_init => k_is)
    (case cw_BadStamp_init => rfl)
    (case cx_BadStamp_init => first | rfl | decide +kernel)
    (case tp_BadStamp_init => first | rfl | decide +kernel)
    (case su_BadStamp_init => first | rfl | k_is)
    (case ve_BadStamp_init => first | rfl | k_is)
    (case md_BadStamp_init => first | rfl | k_is)
    (case ti_BadStamp_init => k_is)
    (case z_th => k_is)
    (case z_su => k_is)
    (case a_BadStep_init => k_is)
    (case l_BadStep_init => k_is)
    (case c_BadStep_init => k_is)
    (case cl_BadStep_init => k_is)
    (case cv_BadStep_init => k_is)
    (case cw_BadStep_init => rfl)
    (case cx_BadStep_init => first | rfl | decide +kernel)
    (case tp_BadStep_init => first | rfl | decide +kernel)
    (case su_BadStep_init => first | rfl | k_is)
    (case ve_BadStep_init => first | rfl | k_is)
    (case md_BadStep_init => first | rfl | k_is)
    (case ti_BadStep_init => k_is)
    (case a_steps_of => k_is)
    (case l_steps_of => k_is)
    (case c_steps_of => k_is)
    (case k_steps_of => k_is)
    (case T1_steps_of => k_is)
    (case a_is_numeral => k_is)
    (case l_is_numeral => k_is)
    (case c_is_numeral => k_is)
    (case k_is_numeral => k_is)
    (case a_law_cell => k_is)
    (case l_law_cell => k_is)
    (case c_law_cell => k_is)
    (case k_law_cell => k_is)
    (case a_law_row => k_is)
    (case l_law_row => k_is)
    (case c_law_row => k_is)
    (case k_law_row => k_is)
    (case a_law_marks => k_is)
    (case l_law_marks => k_is)
    (case c_law_marks => k_is)
    (case k_law_marks => k_is)
    (case a_law_names => k_is)
    (case l_law_names => k_is)
    (case c_law_names => k_is)
    (case k_law_names => k_is)
    (case a_law_steps => k_is)
    (case l_law_steps => k_is)
    (case c_law_steps => k_is)
    (case k_law_steps => k_is)
    (case a_law_one => k_is)
    (case l_law_one => k_is)
    (case c_law_one => k_is)
    (case k_law_one => k_is)
    (case a_law_same => k_is)
    (case l_law_same => k_is)
    (case c_law_same => k_is)
    (case k_law_same => k_is)
    (case a_law_refused => k_is)
    (case l_law_refused => k_is)
    (case c_law_refused => k_is)
    (case k_law_refused => k_is)
    (case a_law => k_is)
    (case l_law => k_is)
    (case c_law => k_is)
    (case k_law => k_is)
    (case gv_GREATEST => k_is)
    (case gv_DIGITS => k_is)
    (case gv_MOST_DIGITS => k_is)
    (case gv_WORDS => k_is)
    (case dl_WORDS => k_is)
    (case dk_WORDS => first | k_is | exact ⟨⟨_, _, rfl, rfl⟩, ⟨_, _, rfl, rfl⟩, ⟨_, _, rfl, rfl⟩, ⟨_, _, rfl, rfl⟩, trivial⟩)
    (case ds_WORDS => first | rfl | decide +kernel)
    (case n_ValueError => k_is)
    (case n_all => k_is)
    (case n_bool => k_is)
    (case n_enumerate => k_is)
    (case n_int => k_is)
    (case n_isinstance => k_is)
    (case n_len => k_is)
    (case n_list => k_is)
    (case n_range => k_is)
    (case n_str => k_is)
    (case n_super => k_is)
    (case n_tuple => k_is)

