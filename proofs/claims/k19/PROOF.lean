import PyProof.Rows.All
import Wide.All
import OpenK.AllK
import Wide.FinOn
import HandS.ForMost
import HandS.IsInst
import HandS.Zip
import HandS.TupAny
import HandS.More
import HandS.Walk
import HandS.Conv
import HandS.ExcOwn
import HandS.ExcIs
import HandS.ExcField
import HandS.FStr
import KE.KExcSuper
import KE.KExcIs
import HandS.TryOnly
import HandS.TupMul
import KE.KTryMore
import KE.LtData
import KE.SortData
import HandS.Sort
import KE.SortKeyHeap
import HandS.SortKw
import HandS.Call
import HandS.List
import KE.KDictList
import KE.DataCmp
import HandS.Strs
import HandS.SetFor
import PyProof.ListStr
import HandS.WordsExc
import HandS.Wide
import HandS.Rev
import HandS.Style
import HandS.StrMore
import HandS.Text
import KE.IntTextLaws
import KE.GoesEnum
import KE.GoesMore
import HandS.Iter
import HandS.Deep
import HandS.TupSets
import KE.KxIndex
import PySem.Challenge.RW_meetstores_k19_whole_scripts_as_text
set_option Elab.async false
set_option linter.all false
set_option maxRecDepth 100000
set_option maxHeartbeats 4000000
section
namespace PySem
namespace WrX
open PySem.W PySem.Calls PyProof.Rows PySem.HandSPX
def iA (p1 p2 : Pos) : Arguments := { posonlyargs := [], args := [{ arg := "self", annotation := none, pos := p1 }, { arg := "place", annotation := none, pos := p2 }], vararg := none, kwonlyargs := [], kw_defaults := [], kwarg := none, defaults := [] }
def iB (tx : Str) (q1 q2 q3 q4 q5 q6 q7 q8 q9 r1 r2 r3 r4 : Pos) : List Stmt :=
  [.Expr (.Call (.Attribute (.Call (.Name "super" q1) [] [] q2) "__init__" q3) [.JoinedStr [.Constant (.str tx) 0 q4, .FormattedValue (.Name "place" q5) (-1) none q6] q7] [] q8) q9,
   .Assign [.Attribute (.Name "self" r1) "place" r2] (.Name "place" r3) r4]
def iS : Scope := { kind := .function, names := [(PySem.Str.ofString "self", .local), (PySem.Str.ofString "place", .local), (PySem.Str.ofString "__class__", .free), (PySem.Str.ofString "super", .globalImplicit)], isGenerator := false, isCoroutine := false, more := [] }
/-- what the written part says of the class at C, and of its __init__, at fI -/
structure WrTxt (P : Program) (K : Frag) (mg : Str → Option Value) (x : Str) (C fI : Addr) : Prop where
  gC : mg x = some (.ref C)
  cls : ∃ nm q N bs bm sn sub ab col dd k0 k1 k2 k3 k5, K.lookup C = some (excClassObj nm q C N bs bm true sn sub ab col dd k0 k1 k2 k3 k5 "ValueError.__new__") ∧ refsVE bm = true
  sa : findIn K (.ref C) "__setattr__" = some (some (.builtin "object.__setattr__"))
  ga : findIn K (.ref C) "__getattribute__" = some (some (.builtin "BaseException.__getattribute__"))
  gg : findIn K (.ref C) "__getattr__" = some none
  noN : findIn K (.ref C) "place" = some none
  iC : findIn K (.ref C) "__init__" = some (some (.ref fI))
  tC : typeIn K (.ref fI) = some (.type "function")
  kC : keepIn K (.ref C) = true
  exC : subIn K (.ref C) (.type "BaseException") = some true
  tyC : typeIn K (.ref C) = some (.type "type")
  hdC : hasDictIn K C = true
  su : ks_superIn K C C "__init__" = some (some (.builtin "ValueError.__init__"))
  opq : nsIn K cStatics "thirdparty.any" = some none
  msup : mg "super" = none
  top : (P.main.scope.names.lookup ("super" : Str)).isSome = false
  self : mroIn K C (.ref C) = some true
  inVE : subIn K (.ref C) (.type "ValueError") = some true
  fn : ∃ (oc : Value) (od : Option Addr) (q : Str) (doc pm : Value) (an : Option Addr) (cda cc : Addr) (ct : Value) (osl : Array (Option Value)) (tx : Str) (p1 p2 q1 q2 q3 q4 q5 q6 q7 q8 q9 r1 r2 r3 r4 : Pos)
    (ccl : Value) (cdd : Option Addr) (vs : Array Value) (ccs : Array (Option Value)) (file : Str) (tf : Tok) (cl : Value) (cld : Option Addr) (csl : Array (Option Value)),
    K.lookup fI = some ⟨oc, od, .func (ksFn "__init__" q (iA p1 p2) (iB tx q1 q2 q3 q4 q5 q6 q7 q8 q9 r1 r2 r3 r4) iS .none .none doc pm an (.ref cda) ct cc), osl⟩ ∧ codeIn K (.ref cda) q = true ∧
    K.lookup cda = some ⟨ccl, cdd, .fields vs, ccs⟩ ∧ vs[2]? = some (.str file tf) ∧ ((P.main.file : Str) == file) = true ∧ K.lookup cc = some ⟨cl, cld, .cell (some (.ref C)), csl⟩ ∧ tx.length ≤ 1000 ∧ (q3.endLine == q8.line) = true
/-- what __init__ leaves of a fresh exception at x -/
structure InitEnd (h h' : Heap) (x C dx t1 : Addr) (v : Value) : Prop where
  keep : ∀ b o, b ≠ x → h.get? b = some o → h'.get? b = some o
  obj : h'.get? x = some { cls := .ref C, dict := some dx, data := .fields #[.ref t1, .none, .none, .none, .bool false, .none] }
  dbig : h.objs.size ≤ dx
  dne : dx ≠ x
  ns : h'.Ns1 dx (fun y => if y = "place" then some v else none)
section
variable {prog : Program} {w : World} {A : Around} {E : Value → Shared → Prop} {R : Result → Shared → Prop} {s : Shared} {K : Frag} {mg : Str → Option Value} {xn : Str} {C fI : Addr}
theorem at_mcall {M : Model} {c : Code} {env : Env} {o : Expr} {name : Str} {apos pos : Pos} {args : List Expr} {Q : Value → Shared → Prop} (hline : (apos.endLine == pos.line) = true) (hform : methodCallForm (args.length + ([] : List Keyword).length) (backTo pos (starEach args env)) (backToKw pos (keywordEach [] env)) = true)
    (h : wpAt M A c (attributeBase o name env (eval o env)) (fun ov s₁ => wpAny M A (getMethod ov name (do return (← importBound o env).getD true)) (fun fx s₂ => wpAny M A (callWith pos fx.1 fx.2 (backTo pos (starEach args env)) []) Q E s₂) E s₁) E s) :
    wpAt M A c (eval (.Call (.Attribute o name apos) args [] pos) env) Q E s := by
  have hpos : methodCallPos true o env apos pos = pure pos := by unfold methodCallPos; simp [hline]
  rw [arm_eval_Call]
  refine wpAt_bind (wpAt_mono h (fun ov s₁ h₁ => wpAt_of_wpAny (wpAny_bind (wpAny_standAt ?_))) fun _ _ x => x)
  unfold methodCall
  rw [hform, hpos]
  refine wpAny_bind (wpAny_holding (wpAny_mono h₁ (fun fx s₂ h₂ => ?_) fun _ _ x => x))
  exact wpAny_bind (wpAny_pure h₂)
/-- ValueError.__init__ of the bound wrapper -/
theorem call_mw {u e t0 : Addr} {rest : List Value} {Q : Value → Shared → Prop} {h : Heap} {g : Array GenState} {d : Drawn} {t : Nat} {os : OsState}
    {nm q : Str} {N : Addr} {bs bm : List Value} {sn : List Str} {sub : List Value} {ab : Bool} {col : Option Bool} {dd : Option Addr} {k0 k1 k2 k3 k5 : Option Value}
    (hC : h.get? C = some (excClassObj nm q C N bs bm true sn sub ab col dd k0 k1 k2 k3 k5 "ValueError.__new__")) (he : h.get? e = some (excO C t0)) (hu : h.get? u = some (kxs_mw "ValueError.__init__" e)) (hrest : rest.length ≤ sizeLine)
    (hq : ∀ h' t1, (∀ b o, b ≠ e → h.get? b = some o → h'.get? b = some o) → h'.get? e = some (excO C t1) → Q .none ⟨h', g, d, t, os⟩) :
    wpAny (model prog w) A (call (.ref u) rest) Q E ⟨h, g, d, t, os⟩ := by
  refine wpAny_call (codeAny_of_tree ?_)
  show wpAny _ A.in1 (callAny (.ref u) ⟨rest, []⟩) _ _ _
  simp only [callAny]
  refine wpAny_bind (wpAny_load hu ?_)
  simp only [kxs_mw, show (Value.type "method-wrapper" == Value.type "method" || Value.type "method-wrapper" == Value.type "builtin_function_or_method" || Value.type "method-wrapper" == Value.type "method-wrapper") = true by decide, if_true]
  refine W.KFB.if_so (by decide) ?_
  refine wpAny_bind (check_bound_init F.excBase_ValueError.toExcCallFacts hC he rfl ?_)
  refine wpAny_bind (wpAny_pure (wpAny_pure ?_))
  refine ⟨plainId_quiet F.excBase_ValueError.init.plain _, codeAny_builtin F.excBase_ValueError.initEntry ?_⟩
  rw [Around.under_plainId F.excBase_ValueError.init.plain _]
  wp_walk
  refine hq _ h.objs.size (fun b o hb ho => ?_) ?_
  · rw [Heap.get?_update_other _ _ (Ne.symm hb)]
    exact Heap.get?_push_of_some _ ho
  · rw [Heap.get?_update_self _ (Heap.get?_push_of_some _ he) rfl]
    rfl

/-- __init__(self, place) of an int -/
theorem wrong_init (T : WrTxt prog K mg xn C fI) {x t0 : Addr} {n : Int} {tn : Tok} (X : K.In s.heap) (G : s.heap.Ns mainGlobals mg) (B : ∃ mb, s.heap.Ns builtinsNs mb ∧ ∀ x : Str, x ≠ "__name__" → mb x = bootBuiltins x)
    (hlim : s.heap.NoLimit) (hx : s.heap.get? x = some (excO C t0)) (hnx : K.lookup x = none) (hn : n.natAbs.log2 < 1920) (hroom : A.depth < recursionLimit)
    (hq : ∀ h' tk dx t1, InitEnd s.heap h' x C dx t1 (.int n tn) → R (.ok (.ret .none)) { s with heap := h', toks := tk }) :
    codeAny (model prog w) A (.call (.ref fI) ⟨[.ref x, .int n tn], []⟩) R s := by
  obtain ⟨oc, od, q, doc, pm, an, cda, cc, ct, osl, tx, p1, p2, q1, q2, q3, q4, q5, q6, q7, q8, q9, r1, r2, r3, r4, ccl, cdd, vs, ccs, file, tf, cl, cld, csl, ho, hcd, hcda, hvs, hfile, hcc, htx, hline⟩ := T.fn
  obtain ⟨nm, qn, N, bs, bm, sn, sub, ab, col, dd, k0, k1, k2, k3, k5, hC, hbm⟩ := T.cls
  have hcl : clsIn K C = some { name := nm, bases := bs, mro := .ref C :: bm, ns := N, qualname := qn, hasDict := true, slotNames := sn, subclasses := sub, abstract := ab, collection := col, hasDel := false } := by unfold clsIn; rw [hC] <;> rfl
  have I0 : InstAt s.heap x (excO C t0) C none := ⟨hx, rfl, rfl, trivial⟩
  have hxC : x ≠ C := ks_ne X I0 hcl
  refine ks_codeAny_call_defAt (fd := ksFn "__init__" q (iA p1 p2) (iB tx q1 q2 q3 q4 q5 q6 q7 q8 q9 r1 r2 r3 r4) iS .none .none doc pm an (.ref cda) ct cc) (body := iB tx q1 q2 q3 q4 q5 q6 q7 q8 q9 r1 r2 r3 r4) (binds := [("self", .ref x), ("place", .int n tn)])
    hroom (X _ _ ho) rfl hlim (codeRec_of X hcd) rfl (BindsTo.of_eq rfl) (by show ∀ x ∈ iS.names, x.2 ≠ .cell; decide) (locs rfl) (fun h₀ hns k₀ => ?_) rfl rfl rfl
  obtain ⟨hp, g, d, t, os⟩ := s
  have X₀ : K.In h₀ := X.keeps k₀
  have hx₀ := k₀ _ _ hx
  have hxL : hp.objs.size ≠ x := Nat.ne_of_gt (Heap.lt_size hx)
  -- super().__init__(f'..')
  refine ks_wpAt_execs_cons (ks_wpAt_Expr_any ?_)
  refine at_mcall hline rfl ?_
  refine ks_wpAt_super_base (env := callEnv (ksFn "__init__" q (iA p1 p2) (iB tx q1 q2 q3 q4 q5 q6 q7 q8 q9 r1 r2 r3 r4) iS .none .none doc pm an (.ref cda) ct cc) hp.objs.size fI) rfl rfl (by decide) rfl (X₀ _ _ ho) rfl rfl rfl (X₀ _ _ hcda) rfl hvs hfile T.top ?_
  obtain ⟨mb, hb, hmb⟩ := B
  refine ks_loadName_global rfl rfl (loadGlobal_builtin (v := .type "super") (Heap.Ns.keeps G k₀) T.msup (Heap.Ns.keeps hb k₀) ((hmb _ (by decide +kernel)).trans (by first | rfl | kernel_rfl)) ⟨rfl, ?_⟩)
  refine wpAny_loadName_free rfl rfl rfl ⟨_, X₀ _ _ hcc, rfl⟩ ?_
  refine wpAny_loadName_local rfl rfl hns (by first | rfl | with_unfolding_all rfl | kernel_rfl) ?_
  refine ks_wpAny_isType_cls (X₀ _ _ hC) rfl ⟨rfl, ?_⟩
  refine ks_wpAny_call_super (X₀ _ _ hC) rfl hx₀ rfl (fun c z => by cases z) (looks_mroIn X₀ T.self) (fun h₁ hso k₁ => ?_)
  have X₁ : K.In h₁ := X₀.keeps k₁
  have hx₁ := k₁ _ _ hx₀
  have hC₁ := X₁ _ _ hC
  have I1 : InstAt h₁ x (excO C t0) C none := ⟨hx₁, rfl, rfl, trivial⟩
  have hI : Looks (model prog w) h₁ (isInstance (.ref x) (.type "ValueError")) true := I1.type.andThen (looks_subIn X₁ T.inVE)
  have hm := T.su
  unfold ks_superIn at hm
  rw [hcl] at hm
  refine kxs_getMethod kxs_ValueError (d := d) (g := g) (os := os) hso (looks_opaque X₁ T.opq) (l₀ := .ref C :: bm) (fun A Q E s k q => wpAny_bind ((looks_clsIn X₁ hcl) A _ E s k (wpAny_pure q))) rfl X₁ hm hI hxC (by decide) ?_
  have hu : (h₁.push (kxs_mw "ValueError.__init__" x)).get? h₁.objs.size = some (kxs_mw "ValueError.__init__" x) := Heap.get?_push_at rfl rfl
  have k₂ : ∀ b o, h₁.get? b = some o → (h₁.push (kxs_mw "ValueError.__init__" x)).get? b = some o := fun b o e => Heap.get?_push_of_some _ e
  refine kxs_callWith (i := "ValueError.__init__") (x := x) rfl ?_
  refine evalArgs_plain (Calls.spliced_cons ?_)
  have hns₂ := (hns.keeps k₁).keeps k₂
  have hi : (Str.ofString (toString n)).length ≤ 1921 := by
    have e := int_text_length_le (k := 1920) (by decide) hn
    rw [ofString_length]
    exact e
  show wpAny _ _ (eval (.JoinedStr [.Constant (.str tx) 0 q4, .FormattedValue (.Name "place" q5) (-1) none q6] q7) _) _ _ _
  refine wpAny_JoinedStr ?_
  refine Calls.Constant_str ⟨tx, _, rfl, ?_, ?_⟩
  · rw [Str.length_append, sizeLine_eq]
    have : Str.empty.length = 0 := rfl
    omega
  refine wpAny_FormattedValue_plain (wpAny_Name (wpAny_loadName_local rfl rfl hns₂ (by first | rfl | with_unfolding_all rfl | kernel_rfl) (wpAny_formatField_int hn ⟨toString n, _, rfl, ?_, ?_⟩)) (by decide))
  · rw [Str.length_append, Str.length_append, sizeLine_eq]
    have : Str.empty.length = 0 := rfl
    omega
  refine ⟨?_, ?_⟩
  · rw [Str.length_append, Str.length_append, sizeLine_eq]
    have : Str.empty.length = 0 := rfl
    omega
  refine Calls.spliced_nil ?_
  show KxsAt _ _ _ _ ∧ wpAny _ _ (call _ _) _ _ _
  refine ⟨hu, ?_⟩
  refine call_mw (k₂ _ _ hC₁) (k₂ _ _ hx₁) hu (by show 1 ≤ sizeLine; rw [sizeLine_eq]; omega) (fun h₃ t1 k₃ hx₃ => ?_)
  have kc : ∀ b o, hp.get? b = some o → b ≠ x → h₃.get? b = some o := fun b o e n => k₃ b o n (k₂ b o (k₁ b o (k₀ b o e)))
  have X₃ : K.In h₃ := fun a o e => kc a o (X _ _ e) (fun z => by rw [z, hnx] at e; cases e)
  have hns₃ : h₃.Ns hp.objs.size _ := hns₂.at fun o e => k₃ _ o hxL e
  -- self.place = place
  show wpAt _ _ _ (execs _ _) _ _ _
  refine wpAt_of_wpAny ?_
  refine wpAny_execs_cons (plainObj_wpAny_Assign_Attribute ?_)
  refine wpAny_Name (wpAny_loadName_local rfl rfl hns₃ (by first | rfl | with_unfolding_all rfl | kernel_rfl) ?_) (by decide)
  refine wpAny_Name (wpAny_loadName_local rfl rfl hns₃ (by first | rfl | with_unfolding_all rfl | kernel_rfl) ?_) (by decide)
  refine set_plain X₃ (ox := excO C t1) (od := none) ⟨hx₃, rfl, rfl, trivial⟩ T.sa ?_
  refine exc_osa X₃ hx₃ hcl (show refsVE (.ref C :: bm) = true from hbm) rfl T.noN (fun h₄ tk₄ dx k₄ dn dne hx₄ hn₄ => ?_)
  show wpAny _ _ (execs _ _) _ _ _
  refine wpAny_execs_nil (hq h₄ tk₄ dx t1 ⟨fun b o hb e => k₄ b o hb (kc b o e hb), hx₄, ?_, dne, hn₄⟩)
  obtain ⟨oL, _, _, hoL, _⟩ := hns₃
  exact Nat.le_trans (Nat.le_of_lt (Heap.lt_size hoL)) dn

/-- a made error -/
structure OwnMade (h h' : Heap) (e C d : Addr) (v : Value) : Prop where
  keep : ∀ b o, h.get? b = some o → h'.get? b = some o
  new : h.objs.size ≤ e
  obj : ∃ oe vs, h'.get? e = some oe ∧ oe.cls = .ref C ∧ oe.dict = some d ∧ oe.data = .fields vs ∧ vs[1]? = some .none
  dbig : h.objs.size ≤ d
  dne : d ≠ e
  ns : h'.Ns1 d (fun y => if y = "place" then some v else none)
theorem wrong_made (T : WrTxt prog K mg xn C fI) {n : Int} {tn : Tok} (X : K.In s.heap) (G : s.heap.Ns mainGlobals mg) (B : ∃ mb, s.heap.Ns builtinsNs mb ∧ ∀ x : Str, x ≠ "__name__" → mb x = bootBuiltins x) (hlim : s.heap.NoLimit) (hn : n.natAbs.log2 < 1920) (hroom : A.depth + 1 < recursionLimit)
    (hq : ∀ h' tk e d, OwnMade s.heap h' e C d (.int n tn) → R (.ok (.ret (.ref e))) { s with heap := h', toks := tk }) :
    codeAny (model prog w) A (.call (.ref C) ⟨[.int n tn], []⟩) R s := by
  obtain ⟨nm, q, N, bs, bm, sn, sub, ab, col, dd, k0, k1, k2, k3, k5, hC, hbm⟩ := T.cls
  obtain ⟨hp, g, dr, tk, os⟩ := s
  have k : ∀ b o, hp.get? b = some o → ((hp.push (kdv_tup [.int n tn])).push (excO C hp.objs.size)).get? b = some o := fun b o e => Heap.get?_push_of_some _ (Heap.get?_push_of_some _ e)
  have hget : ((hp.push (kdv_tup [.int n tn])).push (excO C hp.objs.size)).get? (hp.objs.size + 1) = some (excO C hp.objs.size) := by heap_get
  have hnx : K.lookup (hp.objs.size + 1) = none := by
    cases e : K.lookup (hp.objs.size + 1) with
    | none => rfl
    | some o =>
      have z : hp.get? (hp.objs.size + 1) = some o := X _ _ e
      exact absurd (Nat.lt_of_succ_lt (Heap.lt_size z)) (Nat.lt_irrefl _)
  refine call_own F.excBase_ValueError (fun X => refsVE_contains X bm hbm) (X _ _ hC) (looks_findIn X T.iC) (fun self => bind_fn X self T.tC) (by show 1 ≤ sizeLine; rw [sizeLine_eq]; omega) ?_
  obtain ⟨mb, hb, hmb⟩ := B
  refine wrong_init (s := ⟨(hp.push (kdv_tup [.int n tn])).push (excO C hp.objs.size), g, dr, tk, os⟩) T (X.keeps k) (G.keeps k) ⟨mb, hb.keeps k, hmb⟩ (hlim.keeps k) hget hnx hn ?_ fun h' tk' dx t1 ⟨k', hx, dn, dne, hns⟩ => ?_
  · show A.depth + 1 < recursionLimit
    exact hroom
  · have old : ∀ b o, hp.get? b = some o → h'.get? b = some o := fun b o e => k' b o (Nat.ne_of_lt (Nat.lt_succ_of_lt (Heap.lt_size e))) (k b o e)
    have z : hp.objs.size + 1 + 1 ≤ dx := by
      first
        | (simpa only [Heap.size_push] using dn)
        | exact dn
        | (have q := dn; rw [Heap.size_push, Heap.size_push] at q; exact q)
    exact ⟨rfl, hq h' tk' (hp.objs.size + 1) dx ⟨old, Nat.le_succ _, ⟨_, _, hx, rfl, rfl, rfl, rfl⟩, Nat.le_trans (Nat.le_trans (Nat.le_succ _) (Nat.le_succ _)) z, dne, hns⟩⟩
end
end WrX
end PySem
namespace L2
open PySem PySem.Spec PyProof.Rows
theorem relO_wr {v : V} {v' : Value} (r : RelV v v') (f : Str) : RelO (List.lookup f [(("place" : Str), v)]) (if f = "place" then some v' else none) := by
  by_cases hw : f = "place"
  · subst hw
    rw [if_pos rfl]
    have q : List.lookup ("place" : Str) [(("place" : Str), v)] = some v := by simp [List.lookup]
    rw [q]
    exact r
  · rw [if_neg hw]
    have qw : (f == ("place" : Str)) = false := by simpa using hw
    have q2 : List.lookup f [(("place" : Str), v)] = none := by simp [List.lookup, qw]
    rw [q2]
    trivial
section
variable {X : Cx} {xn : Str} {C fI : Addr}
/-- Low(e) -/
def tMkWr (C : Addr) (ta : TA) : St → Hp → XK → Prop := fun σ H Q => ta σ H fun vs H1 => ∃ n : Int, vs = [.int n] ∧ n.natAbs.log2 < 1920 ∧ ∀ d, H1 d = none → Q (.ref C) (some d) (upd H1 d (.xd [(("place" : Str), .int n)]))
theorem pmk_wr {a : Expr} {ta : TA} {p pos : Pos} {k : Nat} (T : PySem.WrX.WrTxt X.prog X.K X.mg xn C fI) (hr : Room k X.A) (ha : PA X [a] ta) (hg : Gl X xn := by rfl) (hdb : (xn == ("__debug__" : Str)) = false := by decide)
    (he : starEach (a :: []) X.env = (false, eval a X.env) :: starEach [] X.env := by rfl) (hpl : (backTo pos (starEach [] X.env)).any (·.1) = false := by rfl) :
    PMk X (.Call (.Name xn p) [a] [] pos) (tMkWr C ta) := by
  intro pins s σ H Q I h
  refine wpAny_Call_Name_kw (ld_glob I hg T.gC ?_ hdb)
  refine PySem.W.callWith_K (h₀ := X.base) I.ok.mod.kin T.kC (thn (ha.run pos pins s σ H _ I h) fun us s1 hh => ?_) he hpl
  obtain ⟨vs, H1, I1, r1, n, ev, hn, q1⟩ := hh
  subst ev
  refine ⟨I1.kIn, ?_⟩
  cases r1 with
  | cons rv rn =>
    rename_i v' us'
    cases rn
    obtain ⟨tn, rfl⟩ := rv
    show wpAny _ _ (call (.ref C) [.int n tn]) _ _ _
    have hlim := I1.nolimit
    obtain ⟨hp, g, dr, tk, os⟩ := s1
    refine wpAny_call (PySem.WrX.wrong_made T I1.kIn (I1.mod.glob.keeps I1.bk) (by obtain ⟨mb, hb, hmb⟩ := I1.mod.blt; exact ⟨mb, hb.keeps I1.bk, hmb⟩) hlim hn (by have := hr.dp; omega) fun h' tk' e d M => ?_)
    show MkP X pins σ Q (.ref e) ⟨h', g, dr, tk', os⟩
    obtain ⟨oe, fv, hoe, hc, hd, hdat, h1⟩ := M.obj
    have hns := M.ns
    obtain ⟨G', g1, g2⟩ := restrict h' fun b => decide (b ≠ e)
    have gk : ∀ b, b ≠ e → G'.get? b = h'.get? b := fun b hb => g1 b (decide_eq_true hb)
    have ge : G'.get? e = none := g2 e (by simp)
    have old : ∀ b o, hp.get? b = some o → G'.get? b = some o := fun b o q => (gk b (Nat.ne_of_lt (Nat.lt_of_lt_of_le (Heap.lt_size q) M.new))).trans (M.keep b o q)
    have ob : ObjOk X.prog X.w (upd H1 d (.xd [(("place" : Str), .int n)])) G' d (.xd [(("place" : Str), .int n)]) :=
      ⟨_, hns.at (fun o q => (gk d M.dne).trans q), fun f => relO_wr (v := .int n) ⟨tn, rfl⟩ f⟩
    have J : Inv X pins σ (upd H1 d (.xd [(("place" : Str), .int n)])) ⟨G', g, dr, tk', os⟩ := I1.laid (t' := tk') old M.dbig ob
    refine ⟨e, oe, fv, ⟨G', g, dr, tk', os⟩, _, .ref C, some d, rfl, J, fun b o q => ?_, ge, hoe, ⟨hc, hd⟩, hdat, h1, ?_, rfl, I1.bare, raises_own T.exC T.tyC, q1 d (I1.hok.fresh M.dbig)⟩
    · by_cases hb : b = e
      · have q' : G'.get? b = some o := q
        rw [hb, ge] at q'; cases q'
      · exact (gk b hb).symm.trans q
    · rw [upd_ne (Ne.symm M.dne)]
      exact I1.hok.fresh M.new
/-- raise Low(e) -/
def tRaiseWr (C : Addr) (W : WX) (ta : TA) : TS := fun _ σ H => tMkWr C ta σ H fun cls d H' => W cls d σ H'
theorem ps_raiseWr {a : Expr} {ta : TA} {W : WX} {p pos pos2 : Pos} {k : Nat} (hc : X.calm = true) (T : PySem.WrX.WrTxt X.prog X.K X.mg xn C fI) (hr : Room k X.A) (tk : Takes X W) (ha : PA X [a] ta) (hg : Gl X xn := by rfl) (hdb : (xn == ("__debug__" : Str)) = false := by decide)
    (he : starEach (a :: []) X.env = (false, eval a X.env) :: starEach [] X.env := by rfl) (hpl : (backTo pos (starEach [] X.env)).any (·.1) = false := by rfl) :
    PS X (.Raise (some (.Call (.Name xn p) [a] [] pos)) none pos2) (tRaiseWr C W ta) := ps_raise hc tk (pmk_wr T hr ha hg hdb he hpl)
/-- low.by, low the exception that the suite holds (at a; its class cls, its dict d) -/
def tByWr (C : Addr) (a : Addr) (cls : Value) (d : Option Addr) (te : TE) : TE := fun σ H Q => te σ H fun x H1 => x = .ref a ∧ cls = .ref C ∧ ∃ (dd : Addr) (v : V), d = some dd ∧ H1 dd = some (.xd [(("place" : Str), v)]) ∧ Q v H1
theorem pe_byWr {a : Addr} {oe : Obj} {cls : Value} {d : Option Addr} {pn : List (Addr × Obj)} {e : Expr} {te : TE} {pos : Pos} (T : PySem.WrX.WrTxt X.prog X.K X.mg xn C fI) (hz : Zc cls d oe) (hf : ∃ vs, oe.data = .fields vs) (he : PE (X.suite a ((a, oe) :: pn)) e te)
    (hb : attributeBase e "place" X.env (eval e X.env) = eval e X.env := by rfl) :
    PE (X.suite a ((a, oe) :: pn)) (.Attribute e "place" pos) (tByWr C a cls d te) := by
  refine ⟨fun pins s σ H Q I h => ?_⟩
  refine attr_of hb (thn (he.run pins s σ H _ I h) fun u s1 hh => ?_)
  obtain ⟨x, H1, I1, rx, ex, ec, dd, v, ed, ea, q⟩ := hh
  subst ex
  obtain rfl : u = Value.ref a := rx
  subst ec
  subst ed
  obtain ⟨ha, _⟩ := I1.pin (a, oe) (List.mem_append_left _ List.mem_cons_self)
  obtain ⟨vs, hd⟩ := hf
  have hx : ObjOk X.prog X.w H1 s1.heap dd (.xd [(("place" : Str), v)]) := I1.hok dd _ ea
  obtain ⟨mA, hns, hr⟩ := hx
  obtain ⟨od, ho, hl⟩ := lookIn_ns hns
  have l : List.lookup ("place" : Str) [(("place" : Str), v)] = some v := by simp [List.lookup]
  obtain ⟨u, hu, ru⟩ := RelO.some_of (v := v) (o := mA "place") (by rw [← l]; exact hr "place")
  have J : PySem.W.InstAt s1.heap a oe C (some od) := ⟨ha, hz.1, by unfold PySem.W.notCls; rw [hd] <;> rfl, by rw [hz.2]; exact ho⟩
  exact HandSPX.exc_get I1.kIn J T.ga T.gg T.exC (PySem.W.findObj_own T.hdC T.noN rfl (by rw [hl, hu])) (handed_of ru) ⟨v, H1, I1.tok _, ru, q⟩
end
end L2

end
section
namespace L2
open PySem PySem.Spec PyProof.Rows
/-- isinstance(e, c), e the error that the suite holds: its class at D, its dict d -/
def rIsX (K : PySem.W.Frag) (a : Addr) (cls : Value) (d : Option Addr) : List V → Hp → VK → Prop := fun xs H Q => ∃ (D : Addr) (c : V) (cv : Value) (b : Bool), xs = [.ref a, c] ∧ cls = .ref D ∧ ExcC K D ∧ (d = none ∨ ∃ dd fs, d = some dd ∧ H dd = some (.xd fs)) ∧ (∀ u, RelV c u → u = cv) ∧ PySem.W.kitOne K (.ref D) cv = some b ∧ Q (.bl b) H
theorem call_isX {X : Cx} {a : Addr} {cls : Value} {d : Option Addr} {oe : Obj} {pn : List (Addr × Obj)} (hz : Zc cls d oe) (hf : ∃ vs, oe.data = .fields vs) : CallR (X.suite a ((a, oe) :: pn)) (.builtin "isinstance") (rIsX X.K a cls d) := by
  intro pins s σ H xs us Q I r h
  obtain ⟨D, c, cv, b, rfl, rfl, C, hd, hcv, e, q⟩ := h
  cases r with
  | cons rx rr =>
    cases rr with
    | cons rt rr =>
      cases rr
      cases rx
      have ec := hcv _ rt
      subst ec
      obtain ⟨hget, _⟩ := I.pin (a, oe) (List.mem_append.mpr (.inl List.mem_cons_self))
      obtain ⟨vs, hv⟩ := hf
      have J : ∃ od, PySem.W.InstAt s.heap a oe D od := by
        rcases hd with rfl | ⟨dd, fs, rfl, hx⟩
        · obtain ⟨oc, od, oda, osl⟩ := oe
          obtain ⟨h1, h2⟩ := hz
          dsimp only at h1 h2 hv
          subst h1 h2 hv
          exact ⟨none, hget, rfl, rfl, trivial⟩
        · have hx : ObjOk X.prog X.w H s.heap dd (.xd fs) := I.hok dd _ hx
          obtain ⟨mA, hns, hr⟩ := hx
          obtain ⟨od, ho, hl⟩ := lookIn_ns hns
          exact ⟨some od, hget, hz.1, by unfold PySem.W.notCls; rw [hv] <;> rfl, by rw [hz.2]; exact ho⟩
      obtain ⟨od, J⟩ := J
      exact PySem.W.kia_one (PySem.W.kitx_exc (by obtain ⟨cd, hc, _⟩ := PySem.W.any_some C.hd; rw [hc]; rfl) C.hg C.hk C.hs C.ha C.hn C.ht C.hm) I.kIn J e (fun z => nomatch z) fun tk => ⟨.bl b, H, I.kept (t' := tk) fun _ _ z => z, rfl, q⟩
end L2
end
section
namespace L2
open PySem PySem.Spec PyProof.Rows
theorem flying_keeps {B h h' : Heap} {l : List Env} {e : Addr} {Z : Obj → Prop} (x : HandSPX.FlyingZ B l e Z h) (k : ∀ b o, h.get? b = some o → h'.get? b = some o) : HandSPX.FlyingZ B l e Z h' := by
  obtain ⟨h1, h2, h3, oe, vs, T, oT, ts, e1, e2, e3, e4, e5, e6, e7, e8, e9⟩ := x
  exact ⟨fun b o q => k b o (h1 b o q), h2, Heap.FunFrames.of_keeps (fun b o q _ => ⟨o, k b o q, rfl⟩) h3, oe, vs, T, oT, ts, k _ _ e1, e2, e3, e4, e5, e6, k _ _ e7, e8, e9⟩
/-- except (x1, x2): the clause takes what the body lets out -/
def wTup (K : PySem.W.Frag) (c1 c2 : Value) (ts : Addr → Value → Option Addr → TS) (D : Ends) : WX := fun cls d σ H => PySem.W.exmAny K cls [c1, c2] = some true ∧ ∀ a, H a = none → ts a cls d D σ H
section
variable {X : Cx} {x1 x2 : Str} {c1 c2 : Value} {body suite : List Stmt} {b₀ : Stmt} {n1 n2 tpos pos pos' : Pos} {kk : Nat} {tb : WX → TS} {ts : Addr → Value → Option Addr → TS}
theorem ps_try_tup (hs : X.stack = X.env :: X.outer) (hf : X.env.frame = some X.env.locals) (hc1 : Names X x1 c1) (hc2 : Names X x2 c2)
    (hb : ∀ (W : WX) (pn : List (Addr × Obj)) (xe : Value → Shared → Prop), Takes (X.tr pn xe) W → PassesOwn (model X.prog X.w) X.A X.env xe → PSs (X.tr pn xe) body (tb W))
    (hsu : ∀ (a : Addr) (oe : Obj) (cls : Value) (d : Option Addr) (pn : List (Addr × Obj)), Zc cls d oe → (∃ vs, oe.data = .fields vs) → PSs (X.suite a ((a, oe) :: pn)) (b₀ :: suite) (ts a cls d)) :
    PS X (.Try body [.ExceptHandler (some (.Tuple [.Name x1 n1, .Name x2 n2] kk tpos)) none (b₀ :: suite) pos'] [] [] pos) (fun D σ H => tb (wTup X.K c1 c2 ts D) D σ H) := by
  refine ⟨fun pins s σ H D I h => ?_⟩
  have ok := I.ok
  have frm : X.A.frames = some (X.env :: X.outer) := by rw [ok.frames, hs]
  let hd : List ExceptHandler := [.ExceptHandler (some (.Tuple [.Name x1 n1, .Name x2 n2] kk tpos)) none (b₀ :: suite) pos']
  let out : Value → Shared → Prop := fun e s₁ => wpAny (model X.prog X.w) X.A (noteFrame e X.env) (fun _ s₂ => wpAny (model X.prog X.w) X.A (setFlight e none) (fun _ s₃ => wpAny (model X.prog X.w) X.A (handleBy e X.env hd) (SP X pins D) X.xe s₃) X.xe s₂) X.xe s₁
  refine wpAny_Try_except (wpAny_mono ((hb (wTup X.K c1 c2 ts D) (X.pn ++ pins) out (fun u s' xx => ?_) PassesOwn.looking).run [] s σ H D (I.toTry _) h) (fun f s1 hsp => ?_) (fun e s1 he => he))
  · obtain ⟨a, B, sI, pins', σ', H', cls, d, rfl, J', nb, up, sky, na, os, ag, yes, go⟩ := xx
    have J := J'.ofTry ok
    rw [hs] at sky
    refine Sky.land Zc.steady frm hf sky fun h3 fl3 up3 => ?_
    have J3 : Inv X pins σ' H' { s' with heap := h3 } := J.landed nb fl3.1 (up.trans up3) os ag
    obtain ⟨oe, vs, he, hz, hd'⟩ := fl3.there
    have out : a ∉ frs (X.env :: X.outer) := fun hm => by
      obtain ⟨_, o', e', no⟩ := fl3.2.2.1.mem hm
      rw [he] at e'
      cases e'
      exact no _ hd'
    have nL : a ≠ X.env.locals := fun z => out (List.mem_filterMap.mpr ⟨X.env, List.mem_cons_self, by rw [hf, z]⟩)
    have nF : a ∉ X.fs := fun hm => by
      obtain ⟨e, he, q⟩ := List.mem_filterMap.mp hm
      exact out (List.mem_filterMap.mpr ⟨e, List.mem_cons_of_mem _ he, q⟩)
    have S3 := J3.suite he hd' na nL nF
    have nm : ∀ {x : Str} {c : Value} {p : Pos} {Q : Value → Shared → Prop} {E : Value → Shared → Prop}, Names X x c → Q c { s' with heap := h3 } → wpAny (model X.prog X.w) (X.A.mark (some (.ref a))) (eval (.Name x p) X.env) Q E { s' with heap := h3 } := fun {x c p Q E} hc q => by
      obtain ⟨hg, hdb, hm | ⟨hm, hv, hn⟩⟩ := hc
      · exact ld_glob (X := X.suite a ((a, oe) :: (X.pn ++ pins))) S3 hg hm q hdb
      · exact ld_blt (X := X.suite a ((a, oe) :: (X.pn ++ pins))) S3 hg hm hv q hn hdb
    have kp : ∀ q o, h3.get? q = some o → (h3.push { cls := .type "tuple", data := .seq [c1, c2].toArray }).get? q = some o := fun _ _ z => Heap.get?_push_of_some _ z
    have LT : PySem.W.Looks (model X.prog X.w) (h3.push { cls := .type "tuple", data := .seq [c1, c2].toArray }) (typeOf (.ref a)) cls := fun A Q E s k q => wpAny_typeOf_ref (k _ _ (kp _ _ he)) (by rw [hz.1]; exact q)
    refine wpAny_handleBy_cons (codeAny_handlers_test (wpAny_Tuple (wpAny_items_cons (nm hc1 (wpAny_items_cons (nm hc2 (wpAny_items_nil ⟨by show 2 ≤ sizeLine; decide, ?_⟩))))))) (by intro q; cases q)
    refine (PySem.W.exm_tup2 (J3.kIn.keeps kp) LT (Heap.get?_push_size h3 rfl) yes).here ?_
    refine codeAny_handlers_suite (HandSPX.lands_againZ (flying_keeps fl3 kp) fun h4 fl4 up4 => ?_)
    have J4 : Inv X pins σ' H' { s' with heap := h4 } := J.landed nb fl4.1 (((up.trans up3).trans (Heap.UpToSlots.of_keeps kp)).trans up4) os ag
    obtain ⟨oe4, vs4, he4, hz4, hd4⟩ := fl4.there
    refine wpAny_mono ((hsu a oe4 cls d (X.pn ++ pins) hz4 ⟨_, hd4⟩).run [] _ _ H' _ (J4.suite he4 hd4 na nL nF) (go a na)) (fun f s6 hsp => ?_) (fun _ _ z => False.elim z)
    cases f with
    | ret u =>
      obtain ⟨v6, σ6, H6, S6, r6, q6⟩ := hsp
      exact ⟨_, _, _, S6.unsuite ok, r6, q6⟩
    | _ =>
      obtain ⟨σ6, H6, S6, q6⟩ := hsp
      exact ⟨_, _, S6.unsuite ok, q6⟩
  · cases f with
    | next =>
      obtain ⟨σ', H', J', q⟩ := hsp
      exact wpAny_execs_nil ⟨σ', H', J'.ofTry ok, q⟩
    | ret u =>
      obtain ⟨v, σ', H', J', r, q⟩ := hsp
      exact ⟨v, σ', H', J'.ofTry ok, r, q⟩
    | _ =>
      obtain ⟨σ', H', J', q⟩ := hsp
      exact ⟨σ', H', J'.ofTry ok, q⟩
end
end L2
end
section
namespace L2
open PySem PySem.Spec PyProof.Rows
/-- t * k, k of any size up to ten thousand -/
def rRepW (K : PySem.W.Frag) : R2 := fun x y H Q => ∃ l k xs, x = .ref l ∧ y = .int k ∧ SqT K H l xs ∧ xs ≠ [] ∧ 2 ≤ k ∧ k ≤ 10000 ∧ xs.length ≤ 10 ∧ ∀ p, H p = none → Q (.ref p) (upd H p (.tup (List.replicate k.toNat xs).flatten))
theorem op_repW {X : Cx} : OpR X (binaryOp .Mult) (rRepW X.K) := by
  intro pins s σ H x y v u Q I rx ry h
  obtain ⟨l, k, xs, rfl, rfl, hT, hne, h1, h2, hz, q⟩ := h
  cases rx
  obtain ⟨t, rfl⟩ := ry
  obtain ⟨its, r, ⟨⟨cls, dd, data, sl⟩, ho, hc, n, hd⟩, hs⟩ := I.tuple hT
  simp only at hc hd
  subst hc hd
  have hle : its.length = xs.length := r.length.symm
  have hn : its ≠ [] := fun e => by
    rw [e] at hle
    exact hne (List.eq_nil_of_length_eq_zero hle.symm)
  have hi : its.toArray.isEmpty = false := by
    cases its with
    | nil => exact absurd rfl hn
    | cons a b => rfl
  have hsz : its.toArray.size = xs.length := by rw [List.size_toArray, hle]
  have hm : ((its.toArray.size : Nat) : Int) * k ≤ 100000 := by
    rw [hsz]
    have : ((xs.length : Nat) : Int) * k ≤ 10 * k := Int.mul_le_mul_of_nonneg_right (by omega) (by omega)
    omega
  have fl : k.toNat * xs.length ≤ 10000 * 10 := Nat.mul_le_mul (by omega) hz
  have flen : (List.replicate k.toNat its).flatten.length ≤ sizeLine := by
    rw [PyProof.Rows.lm_len_rep_flat, hle, sizeLine_eq]
    omega
  have big : (decide (k < -(2 ^ 63)) || decide (k ≥ 2 ^ 63)) = false := by
    rw [decide_eq_false (by omega), decide_eq_false (by omega)] <;> rfl
  have one : (its.toArray.isEmpty || k == 1) = false := by rw [hi, Bool.false_or]; exact beq_eq_false_iff_ne.mpr (by omega)
  have low : (decide (k ≤ 0) || its.toArray.isEmpty) = false := by rw [hi, Bool.or_false]; exact decide_eq_false (by omega)
  have many : Builtin.Tuple.tupleTooMany (((its.toArray.size : Nat) : Int) * k) = false := by
    unfold Builtin.Tuple.tupleTooMany
    rw [sizeLine_eq]
    exact decide_eq_false (by omega)
  have road := tuple_mulW l its.toArray n dd sl k t big one low (by omega) many (by rw [size_rep, List.size_toArray]; exact flen)
  refine wpAny_binaryOp_repeat_ref (T := "tuple") (U := "int") (by decide) ⟨_, ho, rfl⟩ (fun s' => typeIs_int s' k t) noFill_tuple_mul F.fills_int_mul F.slot_int_rmul repeat_tuple F.slot_int_index.lookup
    (call_meets F.slot_int_rmul (typeIs_int s k t) F.entry_int_rmul (F.args_int_rmul_2 _ _) (int_rmul_tuple k t l its.toArray n dd sl) ⟨ho, rfl, ⟨_, ho, rfl⟩, call_meets F.slot_tuple_mul ⟨_, ho, rfl⟩ F.entry_tuple_mul (F.args_tuple_mul_2 _ _) road ⟨ho, ?_⟩⟩)
  rw [size_rep]
  refine ⟨.ref s.heap.objs.size, _, I.laid (t' := s.toks) (o := .tup (List.replicate k.toNat xs).flatten) (fun b ob q => Heap.get?_push_of_some _ q) (Nat.le_refl _) ?_, rfl, q _ (I.hok.fresh (Nat.le_refl _))⟩
  exact ⟨by rw [PyProof.Rows.lm_len_rep_flat, sizeLine_eq]; omega, _, r.rep k.toNat, IsTup.new _ _⟩
end L2
end
section
/-! notes and stores, as the document has them: pure -/
namespace No
open PySem
abbrev kl (x : Str) : List Nat := x.cps.toList
structure Nt where
  key : Str
  host : Nat
  ser : Nat
  past : List Nat
  val : PyData
/-! ### the order of places -/
def plt (a b : Nt) : Prop := kl a.key < kl b.key ∨ (a.key = b.key ∧ a.host < b.host)
theorem kl_inj {x y : Str} (h : kl x = kl y) : x = y := PySem.W.str_of_cps h
theorem kl_irr (x : Str) : ¬ kl x < kl x := List.lt_irrefl _
theorem kl_trans {x y z : Str} (h : kl x < kl y) (h2 : kl y < kl z) : kl x < kl z := List.lt_trans h h2
theorem kl_tri (x y : Str) : kl x < kl y ∨ x = y ∨ kl y < kl x := by
  by_cases h : kl x < kl y
  · exact .inl h
  · by_cases h2 : kl y < kl x
    · exact .inr (.inr h2)
    · exact .inr (.inl (kl_inj (List.le_antisymm (List.not_lt.mp h2) (List.not_lt.mp h))))
theorem plt_irr (a : Nt) : ¬ plt a a := by
  rintro (h | ⟨_, h⟩)
  · exact kl_irr _ h
  · exact Nat.lt_irrefl _ h
theorem plt_trans {a b c : Nt} (h : plt a b) (h2 : plt b c) : plt a c := by
  rcases h with h | ⟨e, h⟩
  · rcases h2 with h2 | ⟨e2, h2⟩
    · exact .inl (kl_trans h h2)
    · exact .inl (e2 ▸ h)
  · rcases h2 with h2 | ⟨e2, h2⟩
    · exact .inl (e ▸ h2)
    · exact .inr ⟨e.trans e2, Nat.lt_trans h h2⟩
theorem plt_asymm {a b : Nt} (h : plt a b) : ¬ plt b a := fun h2 => plt_irr a (plt_trans h h2)
/-- one list in the one order -/
theorem eq_of_perm {α : Type} {R : α → α → Prop} : ∀ {l l' : List α}, l.Perm l' → l.Pairwise R → l'.Pairwise (fun a b => ¬ R b a) → l' = l
  | [], l', p, _, _ => by rw [List.nil_perm.mp p]
  | a :: t, [], p, _, _ => by have := p.length_eq; simp at this
  | a :: t, b :: t', p, h, h' => by
    have hab : b = a := by
      by_cases e : b = a
      · exact e
      · have hb : b ∈ t := by
          rcases List.mem_cons.mp (p.mem_iff.mpr List.mem_cons_self) with e2 | h2
          · exact absurd e2 e
          · exact h2
        have ha : a ∈ t' := by
          rcases List.mem_cons.mp (p.mem_iff.mp List.mem_cons_self) with e2 | h2
          · exact absurd e2.symm e
          · exact h2
        exact absurd ((List.pairwise_cons.mp h).1 b hb) ((List.pairwise_cons.mp h').1 a ha)
    subst hab
    rw [eq_of_perm p.cons_inv (List.pairwise_cons.mp h).2 (List.pairwise_cons.mp h').2]
/-! ### a store's notes of a key -/
def below (k : Str) (n : Nt) : Bool := decide (kl n.key < kl k)
def same (k : Str) (n : Nt) : Bool := decide (n.key = k)
def above (k : Str) (n : Nt) : Bool := decide (kl k < kl n.key)
theorem split_key (k : Str) : ∀ {s : List Nt}, s.Pairwise plt → s = s.filter (below k) ++ s.filter (same k) ++ s.filter (above k)
  | [], _ => rfl
  | n :: s, h => by
    obtain ⟨h1, h2⟩ := List.pairwise_cons.mp h
    have ih := split_key k h2
    have up : ∀ m, m ∈ s → kl n.key < kl m.key ∨ n.key = m.key := fun m hm => by
      rcases h1 m hm with q | ⟨q, _⟩
      · exact .inl q
      · exact .inr q
    rcases kl_tri n.key k with q | q | q
    · have b1 : below k n = true := by simp [below, q]
      have b2 : same k n = false := by
        simp only [same, decide_eq_false_iff_not]
        intro e
        exact kl_irr k (e ▸ q)
      have b3 : above k n = false := by
        simp only [above, decide_eq_false_iff_not]
        exact fun e => kl_irr k (kl_trans e q)
      rw [List.filter_cons_of_pos b1, List.filter_cons_of_neg (by rw [b2]; decide), List.filter_cons_of_neg (by rw [b3]; decide), List.cons_append, List.cons_append, ← ih]
    · have nb : s.filter (below k) = [] := List.filter_eq_nil_iff.mpr fun m hm hb => by
        simp only [below, decide_eq_true_eq] at hb
        rcases up m hm with u | u
        · exact kl_irr k (kl_trans (q ▸ u) hb)
        · rw [← u, q] at hb
          exact kl_irr k hb
      have b1 : below k n = false := by simp only [below, decide_eq_false_iff_not, q]; exact kl_irr k
      have b2 : same k n = true := by simp [same, q]
      have b3 : above k n = false := by simp only [above, decide_eq_false_iff_not, q]; exact kl_irr k
      rw [nb, List.nil_append] at ih
      rw [List.filter_cons_of_neg (by rw [b1]; decide), List.filter_cons_of_pos b2, List.filter_cons_of_neg (by rw [b3]; decide), nb, List.nil_append, List.cons_append, ← ih]
    · have gt : ∀ m, m ∈ s → kl k < kl m.key := fun m hm => by
        rcases up m hm with u | u
        · exact kl_trans q u
        · rw [← u]; exact q
      have nb : s.filter (below k) = [] := List.filter_eq_nil_iff.mpr fun m hm hb => by
        simp only [below, decide_eq_true_eq] at hb
        exact kl_irr k (kl_trans (gt m hm) hb)
      have ns : s.filter (same k) = [] := List.filter_eq_nil_iff.mpr fun m hm hb => by
        simp only [same, decide_eq_true_eq] at hb
        have := gt m hm
        rw [hb] at this
        exact kl_irr k this
      have b1 : below k n = false := by
        simp only [below, decide_eq_false_iff_not]
        exact fun e => kl_irr k (kl_trans q e)
      have b2 : same k n = false := by
        simp only [same, decide_eq_false_iff_not]
        intro e
        rw [e] at q
        exact kl_irr k q
      have b3 : above k n = true := by simp [above, q]
      rw [nb, ns, List.nil_append, List.nil_append] at ih
      rw [List.filter_cons_of_neg (by rw [b1]; decide), List.filter_cons_of_neg (by rw [b2]; decide), List.filter_cons_of_pos b3, nb, ns, List.nil_append, List.nil_append, ← ih]
/-- where the notes below a key end -/
theorem take_below {k : Str} {s : List Nt} {j : Nat} (hj : j ≤ s.length) (h1 : ∀ i (h : i < s.length), i < j → below k s[i] = true) (h2 : ∀ i (h : i < s.length), j ≤ i → below k s[i] = false) : s.filter (below k) = s.take j := by
  conv => lhs; rw [← List.take_append_drop j s]
  rw [List.filter_append, List.filter_eq_self.mpr, List.filter_eq_nil_iff.mpr, List.append_nil]
  · intro a ha
    obtain ⟨i, hi, rfl⟩ := List.mem_iff_getElem.mp ha
    rw [List.getElem_drop, h2 _ (by rw [List.length_drop] at hi; omega) (by omega)]
    decide
  · intro a ha
    obtain ⟨i, hi, rfl⟩ := List.mem_iff_getElem.mp ha
    rw [List.getElem_take]
    rw [List.length_take] at hi
    exact h1 i (by omega) (by omega)
/-! ### the past of notes -/
def mxs (p q : List Nat) : List Nat := List.zipWith max p q
def bump (p : List Nat) (h s : Nat) : List Nat := p.set h (max (p.getD h 0) s)
def past1 (p : List Nat) (n : Nt) : List Nat := bump (mxs p n.past) n.host n.ser
def pastOf (l : List Nt) : List Nat := l.foldl past1 (List.replicate 8 0)
/-! ### writing -/
def stored (s : List Nt) (h ser : Nat) (k : Str) (v : PyData) : List Nt := s.filter (below k) ++ ⟨k, h, ser, pastOf (s.filter (same k)), v⟩ :: s.filter (above k)
theorem stored_sorted {s : List Nt} {h ser : Nat} {k : Str} {v : PyData} (hs : s.Pairwise plt) : (stored s h ser k v).Pairwise plt := by
  unfold stored
  refine List.pairwise_append.mpr ⟨hs.filter _, List.pairwise_cons.mpr ⟨fun m hm => ?_, hs.filter _⟩, fun a ha b hb => ?_⟩
  · obtain ⟨_, q⟩ := List.mem_filter.mp hm
    simp only [above, decide_eq_true_eq] at q
    exact .inl q
  · obtain ⟨_, q⟩ := List.mem_filter.mp ha
    simp only [below, decide_eq_true_eq] at q
    rcases List.mem_cons.mp hb with rfl | hb
    · exact .inl q
    · obtain ⟨_, q2⟩ := List.mem_filter.mp hb
      simp only [above, decide_eq_true_eq] at q2
      exact .inl (kl_trans q q2)
/-- the law's way: the notes of other keys, and the new one behind them, sorted -/
theorem stored_perm {s : List Nt} {h ser : Nat} {k : Str} {v : PyData} (hs : s.Pairwise plt) : (stored s h ser k v).Perm (s.filter (fun n => !same k n) ++ [⟨k, h, ser, pastOf (s.filter (same k)), v⟩]) := by
  have e : s.filter (fun n => !same k n) = s.filter (below k) ++ s.filter (above k) := by
    have sp := split_key k hs
    have f1 : (s.filter (below k)).filter (fun n => !same k n) = s.filter (below k) := List.filter_eq_self.mpr fun a ha => by
      have := (List.mem_filter.mp ha).2
      simp only [below, decide_eq_true_eq] at this
      simp only [same, Bool.not_eq_true', decide_eq_false_iff_not]
      intro e
      rw [e] at this
      exact kl_irr k this
    have f2 : (s.filter (same k)).filter (fun n => !same k n) = [] := List.filter_eq_nil_iff.mpr fun a ha => by
      have := (List.mem_filter.mp ha).2
      simp [this]
    have f3 : (s.filter (above k)).filter (fun n => !same k n) = s.filter (above k) := List.filter_eq_self.mpr fun a ha => by
      have := (List.mem_filter.mp ha).2
      simp only [above, decide_eq_true_eq] at this
      simp only [same, Bool.not_eq_true', decide_eq_false_iff_not]
      intro e
      rw [e] at this
      exact kl_irr k this
    conv => lhs; rw [sp]
    rw [List.filter_append, List.filter_append, f1, f2, f3, List.append_nil]
  rw [e]
  unfold stored
  exact List.perm_middle.trans (List.perm_append_comm (l₁ := [_]))
/-! ### merging -/
def placed (a b : Nt) : Prop := a.key = b.key ∧ a.host = b.host
instance (a b : Nt) : Decidable (placed a b) := inferInstanceAs (Decidable (_ ∧ _))
def pick (m : List Nt) (n : Nt) : List Nt := if m.any (fun e => decide (placed e n)) = true then m.map (fun e => if placed e n ∧ e.ser < n.ser then n else e) else m ++ [n]
def chosen (l : List Nt) : List Nt := l.foldl pick []
abbrev Unlike (m : List Nt) : Prop := m.Pairwise fun a b => ¬ placed a b
theorem placed_swap {a b : Nt} (h : placed a b) : placed b a := ⟨h.1.symm, h.2.symm⟩
theorem placed_trans {a b c : Nt} (h : placed a b) (h2 : placed b c) : placed a c := ⟨h.1.trans h2.1, h.2.trans h2.2⟩
theorem pick_unlike {m : List Nt} {n : Nt} (h : Unlike m) : Unlike (pick m n) := by
  unfold pick
  split
  · have ep : ∀ e : Nt, placed (if placed e n ∧ e.ser < n.ser then n else e) e := fun e => by
      split
      · rename_i q
        exact placed_swap q.1
      · exact ⟨rfl, rfl⟩
    exact List.pairwise_map.mpr (h.imp fun {a b} hab q => hab (placed_trans (placed_swap (ep a)) (placed_trans q (ep b))))
  · rename_i hn
    refine List.pairwise_append.mpr ⟨h, List.pairwise_singleton _ _, fun a ha b hb => ?_⟩
    rw [List.mem_singleton.mp hb]
    intro q
    exact hn (List.any_eq_true.mpr ⟨a, ha, by simp [q]⟩)
theorem pick_sub {m : List Nt} {n e : Nt} (h : e ∈ pick m n) : e ∈ m ∨ e = n := by
  unfold pick at h
  split at h
  · obtain ⟨a, ha, rfl⟩ := List.mem_map.mp h
    split
    · exact .inr rfl
    · exact .inl ha
  · rcases List.mem_append.mp h with h | h
    · exact .inl h
    · exact .inr (List.mem_singleton.mp h)
theorem pick_has {m : List Nt} {n a : Nt} (h : (∃ e, e ∈ m ∧ placed e a ∧ a.ser ≤ e.ser) ∨ a = n) : ∃ e, e ∈ pick m n ∧ placed e a ∧ a.ser ≤ e.ser := by
  unfold pick
  split
  · rename_i hy
    rcases h with ⟨e, he, hp, hs⟩ | rfl
    · refine ⟨_, List.mem_map.mpr ⟨e, he, rfl⟩, ?_⟩
      split
      · rename_i q
        exact ⟨placed_trans (placed_swap q.1) hp, by omega⟩
      · exact ⟨hp, hs⟩
    · obtain ⟨e, he, hp⟩ := List.any_eq_true.mp hy
      rw [decide_eq_true_eq] at hp
      refine ⟨_, List.mem_map.mpr ⟨e, he, rfl⟩, ?_⟩
      split
      · exact ⟨⟨rfl, rfl⟩, Nat.le_refl _⟩
      · rename_i q
        exact ⟨hp, Nat.le_of_not_lt fun l => q ⟨hp, l⟩⟩
  · rcases h with ⟨e, he, hp, hs⟩ | rfl
    · exact ⟨e, List.mem_append_left _ he, hp, hs⟩
    · exact ⟨a, List.mem_append_right _ (List.mem_singleton.mpr rfl), ⟨rfl, rfl⟩, Nat.le_refl _⟩
theorem folds : ∀ (l m : List Nt), Unlike m → Unlike (l.foldl pick m) ∧ (∀ e, e ∈ l.foldl pick m → e ∈ m ∨ e ∈ l) ∧ ∀ a, ((∃ e, e ∈ m ∧ placed e a ∧ a.ser ≤ e.ser) ∨ a ∈ l) → ∃ e, e ∈ l.foldl pick m ∧ placed e a ∧ a.ser ≤ e.ser
  | [], m, h => ⟨h, fun e he => .inl he, fun a ha => ha.elim id fun q => absurd q (by simp)⟩
  | n :: l, m, h => by
    obtain ⟨h1, h2, h3⟩ := folds l (pick m n) (pick_unlike h)
    refine ⟨h1, fun e he => ?_, fun a ha => h3 a ?_⟩
    · rcases h2 e he with q | q
      · rcases pick_sub q with q | rfl
        · exact .inl q
        · exact .inr List.mem_cons_self
      · exact .inr (List.mem_cons_of_mem _ q)
    · rcases ha with q | q
      · exact .inl (pick_has (.inl q))
      · rcases List.mem_cons.mp q with rfl | q
        · exact .inl (pick_has (.inr rfl))
        · exact .inr q
theorem chosen_unlike (l : List Nt) : Unlike (chosen l) := (folds l [] .nil).1
theorem chosen_sub {l : List Nt} {e : Nt} (h : e ∈ chosen l) : e ∈ l := ((folds l [] .nil).2.1 e h).elim (fun q => nomatch q) id
theorem chosen_has {l : List Nt} {a : Nt} (h : a ∈ l) : ∃ e, e ∈ chosen l ∧ placed e a ∧ a.ser ≤ e.ser := (folds l [] .nil).2.2 a (.inr h)
/-- by place -/
def ple (a b : Nt) : Bool := decide (kl a.key < kl b.key) || (decide (a.key = b.key) && decide (a.host ≤ b.host))
theorem ple_iff {a b : Nt} : ple a b = true ↔ ¬ plt b a := by
  simp only [ple, Bool.or_eq_true, Bool.and_eq_true, decide_eq_true_eq, plt]
  constructor
  · rintro (h | ⟨h1, h2⟩) (g | ⟨g1, g2⟩)
    · exact kl_irr _ (kl_trans h g)
    · rw [g1] at h; exact kl_irr _ h
    · rw [h1] at g; exact kl_irr _ g
    · omega
  · intro h
    rcases kl_tri a.key b.key with q | q | q
    · exact .inl q
    · refine .inr ⟨q, Nat.le_of_not_lt fun l => h (.inr ⟨q.symm, l⟩)⟩
    · exact absurd (.inl q) h
theorem ple_trans {a b c : Nt} (h1 : ple a b = true) (h2 : ple b c = true) : ple a c = true := by
  simp only [ple, Bool.or_eq_true, Bool.and_eq_true, decide_eq_true_eq] at *
  rcases h1 with h | ⟨h, h'⟩
  · rcases h2 with g | ⟨g, g'⟩
    · exact .inl (kl_trans h g)
    · exact .inl (g ▸ h)
  · rcases h2 with g | ⟨g, g'⟩
    · exact .inl (h ▸ g)
    · exact .inr ⟨h.trans g, by omega⟩
theorem ple_total (a b : Nt) : (ple a b || ple b a) = true := by
  rw [Bool.or_eq_true]
  by_cases h : plt b a
  · exact .inr (ple_iff.mpr (plt_asymm h))
  · exact .inl (ple_iff.mpr h)
def found (l : List Nt) : List Nt := (chosen l).mergeSort ple
theorem strict_of {m : List Nt} (h : Unlike m) (h2 : m.Pairwise fun a b => ple a b = true) : m.Pairwise plt := by
  refine (h.and h2).imp fun {a b} ⟨q1, q2⟩ => ?_
  simp only [ple, Bool.or_eq_true, Bool.and_eq_true, decide_eq_true_eq] at q2
  rcases q2 with q2 | ⟨q2, q3⟩
  · exact .inl q2
  · refine .inr ⟨q2, ?_⟩
    rcases Nat.lt_or_eq_of_le q3 with q | q
    · exact q
    · exact absurd ⟨q2, q⟩ q1
theorem found_sorted (l : List Nt) : (found l).Pairwise plt := by
  refine strict_of ?_ (List.pairwise_mergeSort (le := ple) (fun _ _ _ h1 h2 => ple_trans h1 h2) ple_total _)
  exact (chosen_unlike l).perm (List.mergeSort_perm _ _).symm fun {a b} h q => h (placed_swap q)
theorem found_sub {l : List Nt} {e : Nt} (h : e ∈ found l) : e ∈ l := chosen_sub ((List.mergeSort_perm _ _).mem_iff.mp h)
def covers (a b : Nt) : Bool := decide (a.key = b.key) && decide (b.ser ≤ a.past.getD b.host 0)
def merged (s t : List Nt) : List Nt := (found (s ++ t)).filter fun n => !(found (s ++ t)).any fun o => covers o n
theorem merged_sorted (s t : List Nt) : (merged s t).Pairwise plt := (found_sorted _).filter _
theorem merged_sub {s t : List Nt} {e : Nt} (h : e ∈ merged s t) : e ∈ s ∨ e ∈ t := List.mem_append.mp (found_sub (List.mem_filter.mp h).1)
theorem merged_free {s t : List Nt} {a b : Nt} (ha : a ∈ merged s t) (hb : b ∈ merged s t) : covers a b = false := by
  have h := (List.mem_filter.mp hb).2
  rw [Bool.not_eq_true'] at h
  have h2 := List.any_eq_false.mp h a (List.mem_filter.mp ha).1
  simpa using h2
/-! ### groups of a key -/
def addG (g : List (Str × List Nt)) (n : Nt) : List (Str × List Nt) := if g.any (fun e => decide (e.1 = n.key)) = true then g.map (fun e => if e.1 = n.key then (e.1, e.2 ++ [n]) else e) else g ++ [(n.key, [n])]
def groups (l : List Nt) : List (Str × List Nt) := l.foldl addG []
abbrev flat (g : List (Str × List Nt)) : List Nt := (g.map Prod.snd).flatten
/-- groups in the order of their keys, each full of its key -/
structure Gs (g : List (Str × List Nt)) : Prop where
  so : (g.map Prod.fst).Pairwise fun a b => kl a < kl b
  ne : ∀ e, e ∈ g → e.2 ≠ [] ∧ ∀ n, n ∈ e.2 → n.key = e.1
theorem addG_ok {g : List (Str × List Nt)} {n : Nt} (h : Gs g) (hn : ∀ m, m ∈ flat g → kl m.key < kl n.key ∨ m.key = n.key) : Gs (addG g n) ∧ flat (addG g n) = flat g ++ [n] := by
  have up : ∀ e, e ∈ g → kl e.1 < kl n.key ∨ e.1 = n.key := fun e he => by
    obtain ⟨h1, h2⟩ := h.ne e he
    obtain ⟨m, hm⟩ := List.exists_mem_of_ne_nil _ h1
    rw [← h2 m hm]
    exact hn m (List.mem_flatten.mpr ⟨_, List.mem_map.mpr ⟨e, he, rfl⟩, hm⟩)
  unfold addG
  split
  · rename_i hy
    obtain ⟨e, he, hp⟩ := List.any_eq_true.mp hy
    rw [decide_eq_true_eq] at hp
    obtain ⟨g1, g2, rfl⟩ := List.append_of_mem he
    have so := h.so
    rw [List.map_append, List.map_cons] at so
    obtain ⟨s1, s2, s3⟩ := List.pairwise_append.mp so
    obtain ⟨s4, s5⟩ := List.pairwise_cons.mp s2
    have e2 : g2 = [] := by
      cases g2 with
      | nil => rfl
      | cons f g2 =>
        have q := s4 f.1 (List.mem_map.mpr ⟨f, List.mem_cons_self, rfl⟩)
        rw [hp] at q
        rcases up f (by simp) with u | u
        · exact absurd (kl_trans q u) (kl_irr _)
        · rw [u] at q
          exact absurd q (kl_irr _)
    subst e2
    have m1 : g1.map (fun e => if e.1 = n.key then (e.1, e.2 ++ [n]) else e) = g1 := by
      conv => rhs; rw [← List.map_id g1]
      refine List.map_congr_left fun f hf => ?_
      have q := s3 f.1 (List.mem_map.mpr ⟨f, hf, rfl⟩) e.1 List.mem_cons_self
      rw [if_neg]
      · rfl
      · intro q2
        rw [q2, hp] at q
        exact kl_irr _ q
    rw [List.map_append, m1, List.map_cons, List.map_nil, if_pos hp]
    refine ⟨⟨?_, fun f hf => ?_⟩, ?_⟩
    · rw [List.map_append, List.map_cons]
      exact so
    · rcases List.mem_append.mp hf with q | q
      · exact h.ne f (List.mem_append_left _ q)
      · rw [List.mem_singleton.mp q]
        refine ⟨by simp, fun m hm => ?_⟩
        rcases List.mem_append.mp hm with q | q
        · exact (h.ne e he).2 m q
        · rw [List.mem_singleton.mp q]
          exact hp.symm
    · simp [flat]
  · rename_i hno
    have lt : ∀ e, e ∈ g → kl e.1 < kl n.key := fun e he => by
      rcases up e he with u | u
      · exact u
      · exact absurd (List.any_eq_true.mpr ⟨e, he, by simp [u]⟩) hno
    refine ⟨⟨?_, fun f hf => ?_⟩, by simp [flat]⟩
    · rw [List.map_append]
      refine List.pairwise_append.mpr ⟨h.so, List.pairwise_singleton _ _, fun a ha b hb => ?_⟩
      obtain ⟨e, he, rfl⟩ := List.mem_map.mp ha
      rw [List.mem_singleton.mp hb]
      exact lt e he
    · rcases List.mem_append.mp hf with q | q
      · exact h.ne f q
      · rw [List.mem_singleton.mp q]
        exact ⟨by simp, fun m hm => by rw [List.mem_singleton.mp hm]⟩
theorem groups_go : ∀ (l : List Nt) (g : List (Str × List Nt)), Gs g → (flat g ++ l).Pairwise plt → Gs (l.foldl addG g) ∧ flat (l.foldl addG g) = flat g ++ l
  | [], g, h, _ => ⟨h, by simp⟩
  | n :: l, g, h, hp => by
    obtain ⟨_, _, h3⟩ := List.pairwise_append.mp hp
    obtain ⟨a1, a2⟩ := addG_ok (n := n) h fun m hm => by
      rcases h3 m hm n List.mem_cons_self with q | ⟨q, _⟩
      · exact .inl q
      · exact .inr q
    obtain ⟨b1, b2⟩ := groups_go l (addG g n) a1 (by rw [a2, List.append_assoc]; exact hp)
    refine ⟨b1, ?_⟩
    show flat (l.foldl addG (addG g n)) = _
    rw [b2, a2, List.append_assoc]
    rfl
theorem groups_ok {l : List Nt} (h : l.Pairwise plt) : Gs (groups l) ∧ flat (groups l) = l := by
  obtain ⟨h1, h2⟩ := groups_go l [] ⟨.nil, fun e he => nomatch he⟩ (by simpa [flat] using h)
  exact ⟨h1, by rw [groups, h2]; simp [flat]⟩
/-- the notes of a group that none of it covers -/
def freeIn (b : List Nt) : List Nt := b.filter fun n => !b.any fun o => covers o n
theorem any_group {g : List (Str × List Nt)} (h : Gs g) {e : Str × List Nt} (he : e ∈ g) {n : Nt} (hn : n ∈ e.2) : (flat g).any (fun o => covers o n) = e.2.any (fun o => covers o n) := by
  rw [Bool.eq_iff_iff]
  constructor
  · intro q
    obtain ⟨o, ho, hc⟩ := List.any_eq_true.mp q
    obtain ⟨b, hb, hob⟩ := List.mem_flatten.mp ho
    obtain ⟨f, hf, rfl⟩ := List.mem_map.mp hb
    have k1 : o.key = f.1 := (h.ne f hf).2 o hob
    have k2 : n.key = e.1 := (h.ne e he).2 n hn
    have k3 : o.key = n.key := by
      simp only [covers, Bool.and_eq_true, decide_eq_true_eq] at hc
      exact hc.1
    have ef : f.1 = e.1 := by rw [← k1, k3, k2]
    have same : f = e := by
      obtain ⟨i, hi, rfl⟩ := List.mem_iff_getElem.mp hf
      obtain ⟨j, hj, rfl⟩ := List.mem_iff_getElem.mp he
      have so := List.pairwise_iff_getElem.mp h.so
      rcases Nat.lt_trichotomy i j with l | l | l
      · have := so i j (by simpa using hi) (by simpa using hj) l
        rw [List.getElem_map, List.getElem_map, ef] at this
        exact absurd this (kl_irr _)
      · subst l; rfl
      · have := so j i (by simpa using hj) (by simpa using hi) l
        rw [List.getElem_map, List.getElem_map, ef] at this
        exact absurd this (kl_irr _)
    subst same
    exact List.any_eq_true.mpr ⟨o, hob, hc⟩
  · intro q
    obtain ⟨o, ho, hc⟩ := List.any_eq_true.mp q
    exact List.any_eq_true.mpr ⟨o, List.mem_flatten.mpr ⟨_, List.mem_map.mpr ⟨e, he, rfl⟩, ho⟩, hc⟩
theorem free_groups {g : List (Str × List Nt)} (h : Gs g) : ((g.map Prod.snd).map freeIn).flatten = (flat g).filter fun n => !(flat g).any fun o => covers o n := by
  have key : ∀ g' : List (Str × List Nt), (∀ e, e ∈ g' → e ∈ g) → ((g'.map Prod.snd).map freeIn).flatten = (flat g').filter fun n => !(flat g).any fun o => covers o n := by
    intro g'
    induction g' with
    | nil => intro _; rfl
    | cons e g' ih =>
      intro hs
      have he := hs e List.mem_cons_self
      rw [List.map_cons, List.map_cons, List.flatten_cons, ih fun f hf => hs f (List.mem_cons_of_mem _ hf)]
      show _ = ((e.2 :: g'.map Prod.snd).flatten).filter _
      rw [List.flatten_cons, List.filter_append]
      congr 1
      exact List.filter_congr fun n hn => by rw [any_group h he hn]
  exact key g fun _ h => h
theorem merged_groups (s t : List Nt) : merged s t = (((groups (found (s ++ t))).map Prod.snd).map freeIn).flatten := by
  obtain ⟨h1, h2⟩ := groups_ok (found_sorted (s ++ t))
  rw [free_groups h1, h2]
  rfl
end No
end
section
/-! what a store must be, and what the law's stores are: pure -/
namespace No
open PySem
theorem mxs_len {p q : List Nat} (h : p.length = 8) (h2 : q.length = 8) : (mxs p q).length = 8 := by
  unfold mxs
  rw [List.length_zipWith, h, h2]
  rfl
theorem mxs_get {p q : List Nat} (h : p.length = 8) (h2 : q.length = 8) {j : Nat} (hj : j < 8) : (mxs p q).getD j 0 = max (p.getD j 0) (q.getD j 0) := by
  simp only [mxs, List.getD_eq_getElem?_getD]
  rw [List.getElem?_eq_getElem (by rw [List.length_zipWith]; omega), List.getElem?_eq_getElem (by omega), List.getElem?_eq_getElem (by omega)]
  simp
theorem bump_len {p : List Nat} {h s : Nat} (hp : p.length = 8) : (bump p h s).length = 8 := by
  unfold bump
  rw [List.length_set, hp]
theorem bump_get {p : List Nat} {h s j : Nat} (hp : p.length = 8) (hh : h < 8) : (bump p h s).getD j 0 = if j = h then max (p.getD h 0) s else p.getD j 0 := by
  unfold bump
  simp only [List.getD_eq_getElem?_getD, List.getElem?_set]
  by_cases e : h = j
  · subst e
    rw [if_pos rfl, if_pos (by omega), if_pos rfl]
    rfl
  · rw [if_neg e, if_neg (fun q => e q.symm)]
/-- a note's own numbers -/
structure Num (n : Nt) : Prop where
  host : n.host < 8
  len : n.past.length = 8
theorem past1_len {p : List Nat} {n : Nt} (hp : p.length = 8) (h : Num n) : (past1 p n).length = 8 := bump_len (mxs_len hp h.len)
theorem past1_get {p : List Nat} {n : Nt} (hp : p.length = 8) (h : Num n) {j : Nat} (hj : j < 8) : (past1 p n).getD j 0 = if j = n.host then max (max (p.getD j 0) (n.past.getD j 0)) n.ser else max (p.getD j 0) (n.past.getD j 0) := by
  unfold past1
  rw [bump_get (mxs_len hp h.len) h.host]
  split
  · rename_i e
    rw [← e, mxs_get hp h.len hj]
  · rw [mxs_get hp h.len hj]
theorem past_go {B : Nat} {j : Nat} (hj : j < 8) : ∀ (l : List Nt) (p : List Nat), (∀ n, n ∈ l → Num n) → p.length = 8 → p.getD j 0 ≤ B → (∀ n, n ∈ l → n.past.getD j 0 ≤ B ∧ (n.host = j → n.ser ≤ B)) →
    (l.foldl past1 p).length = 8 ∧ (l.foldl past1 p).getD j 0 ≤ B
  | [], p, _, h1, h2, _ => ⟨h1, h2⟩
  | n :: l, p, hn, h1, h2, hb => by
    have hn1 := hn n List.mem_cons_self
    obtain ⟨b1, b2⟩ := hb n List.mem_cons_self
    refine past_go hj l (past1 p n) (fun m hm => hn m (List.mem_cons_of_mem _ hm)) (past1_len h1 hn1) ?_ fun m hm => hb m (List.mem_cons_of_mem _ hm)
    rw [past1_get h1 hn1 hj]
    split
    · rename_i e
      have := b2 e.symm
      omega
    · omega
theorem pastOf_len {l : List Nt} (h : ∀ n, n ∈ l → Num n) : (pastOf l).length = 8 := by
  have : ∀ (l : List Nt) (p : List Nat), (∀ n, n ∈ l → Num n) → p.length = 8 → (l.foldl past1 p).length = 8 := by
    intro l
    induction l with
    | nil => intro p _ h; exact h
    | cons n l ih => exact fun p hn hp => ih _ (fun m hm => hn m (List.mem_cons_of_mem _ hm)) (past1_len hp (hn n List.mem_cons_self))
  exact this l _ h (by simp)
theorem pastOf_le {B : Nat} {j : Nat} {l : List Nt} (hj : j < 8) (h : ∀ n, n ∈ l → Num n) (hb : ∀ n, n ∈ l → n.past.getD j 0 ≤ B ∧ (n.host = j → n.ser ≤ B)) : (pastOf l).getD j 0 ≤ B := by
  refine (past_go hj l _ h (by simp) ?_ hb).2
  rw [List.getD_eq_getElem?_getD, List.getElem?_replicate]
  split <;> simp
section
variable (kok : Str → Prop) (vok : PyData → Prop)
structure NOk (n : Nt) : Prop extends Num n where
  key : kok n.key
  ser1 : 1 ≤ n.ser
  ser2 : n.ser ≤ 134217727
  past : ∀ x, x ∈ n.past → x ≤ 134217727
  own : n.past.getD n.host 0 < n.ser
  val : vok n.val
structure SOk (s : List Nt) : Prop where
  notes : ∀ n, n ∈ s → NOk kok vok n
  so : s.Pairwise plt
  free : ∀ a, a ∈ s → ∀ b, b ∈ s → covers a b = false
variable {kok vok}
/-- the greatest serial of a host that a store has -/
def last1 (h z : Nat) (n : Nt) : Nat := if n.host = h ∧ max z (n.past.getD h 0) < n.ser then n.ser else max z (n.past.getD h 0)
def lastSer (s : List Nt) (h : Nat) : Nat := s.foldl (last1 h) 0
theorem last1_ge (h z : Nat) (n : Nt) : z ≤ last1 h z n ∧ n.past.getD h 0 ≤ last1 h z n ∧ (n.host = h → n.ser ≤ last1 h z n) := by
  unfold last1
  split
  · rename_i q
    omega
  · rename_i q
    refine ⟨by omega, by omega, fun e => ?_⟩
    rcases Nat.lt_or_ge (max z (n.past.getD h 0)) n.ser with l | l
    · exact absurd ⟨e, l⟩ q
    · exact l
theorem last_go (h : Nat) : ∀ (s : List Nt) (z : Nat), z ≤ s.foldl (last1 h) z ∧ ∀ n, n ∈ s → n.past.getD h 0 ≤ s.foldl (last1 h) z ∧ (n.host = h → n.ser ≤ s.foldl (last1 h) z)
  | [], z => ⟨Nat.le_refl _, fun n hn => nomatch hn⟩
  | m :: s, z => by
    obtain ⟨h1, h2⟩ := last_go h s (last1 h z m)
    obtain ⟨g1, g2, g3⟩ := last1_ge h z m
    refine ⟨Nat.le_trans g1 h1, fun n hn => ?_⟩
    rcases List.mem_cons.mp hn with rfl | hn
    · exact ⟨Nat.le_trans g2 h1, fun e => Nat.le_trans (g3 e) h1⟩
    · exact h2 n hn
theorem last_of {s : List Nt} {h : Nat} {n : Nt} (hn : n ∈ s) : n.past.getD h 0 ≤ lastSer s h ∧ (n.host = h → n.ser ≤ lastSer s h) := (last_go h s 0).2 n hn
theorem last_le {B h : Nat} : ∀ {s : List Nt} {z : Nat}, z ≤ B → (∀ n, n ∈ s → n.past.getD h 0 ≤ B ∧ (n.host = h → n.ser ≤ B)) → s.foldl (last1 h) z ≤ B
  | [], z, hz, _ => hz
  | n :: s, z, hz, hb => by
    obtain ⟨b1, b2⟩ := hb n List.mem_cons_self
    refine last_le (s := s) (z := last1 h z n) ?_ fun m hm => hb m (List.mem_cons_of_mem _ hm)
    unfold last1
    split
    · rename_i q
      exact b2 q.1
    · omega
theorem stored_mem {s : List Nt} {h ser : Nat} {k : Str} {v : PyData} {n : Nt} (hn : n ∈ stored s h ser k v) : (n ∈ s ∧ n.key ≠ k) ∨ n = ⟨k, h, ser, pastOf (s.filter (same k)), v⟩ := by
  unfold stored at hn
  rcases List.mem_append.mp hn with q | q
  · obtain ⟨q1, q2⟩ := List.mem_filter.mp q
    simp only [below, decide_eq_true_eq] at q2
    refine .inl ⟨q1, fun e => ?_⟩
    rw [e] at q2
    exact kl_irr k q2
  · rcases List.mem_cons.mp q with q | q
    · exact .inr q
    · obtain ⟨q1, q2⟩ := List.mem_filter.mp q
      simp only [above, decide_eq_true_eq] at q2
      refine .inl ⟨q1, fun e => ?_⟩
      rw [e] at q2
      exact kl_irr k q2
theorem getD_mem {l : List Nat} {j : Nat} (h : j < l.length) : l.getD j 0 ∈ l := by
  rw [List.getD_eq_getElem?_getD, List.getElem?_eq_getElem h]
  exact List.getElem_mem h
theorem le_getD {l : List Nat} {B : Nat} (h : ∀ j, j < l.length → l.getD j 0 ≤ B) : ∀ x, x ∈ l → x ≤ B := fun x hx => by
  obtain ⟨j, hj, rfl⟩ := List.mem_iff_getElem.mp hx
  have := h j hj
  rwa [List.getD_eq_getElem?_getD, List.getElem?_eq_getElem hj] at this
theorem stored_ok {s : List Nt} {h ser : Nat} {k : Str} {v : PyData} (hs : SOk kok vok s) (hh : h < 8) (hl : lastSer s h < ser) (hm : ser ≤ 134217727) (hk : kok k) (hv : vok v) : SOk kok vok (stored s h ser k v) := by
  have num : ∀ n, n ∈ s.filter (same k) → Num n := fun n hn => (hs.notes n (List.mem_filter.mp hn).1).toNum
  have nw : NOk kok vok ⟨k, h, ser, pastOf (s.filter (same k)), v⟩ := by
    refine ⟨⟨hh, pastOf_len num⟩, hk, by show 1 ≤ ser; omega, hm, ?_, ?_, hv⟩
    · refine le_getD fun j hj => ?_
      have hj8 : j < 8 := by rw [pastOf_len num] at hj; exact hj
      refine pastOf_le hj8 num fun n hn => ?_
      have hn' := hs.notes n (List.mem_filter.mp hn).1
      exact ⟨hn'.past _ (getD_mem (by rw [hn'.len]; exact hj8)), fun _ => hn'.ser2⟩
    · refine Nat.lt_of_le_of_lt (pastOf_le hh num fun n hn => ?_) hl
      exact last_of (List.mem_filter.mp hn).1
  have ncov : ∀ a b : Nt, a.key ≠ b.key → covers a b = false := fun a b e => by simp [covers, e]
  refine ⟨fun n hn => ?_, stored_sorted hs.so, fun a ha b hb => ?_⟩
  · rcases stored_mem hn with ⟨q, _⟩ | rfl
    · exact hs.notes n q
    · exact nw
  · rcases stored_mem ha with ⟨q, qk⟩ | rfl
    · rcases stored_mem hb with ⟨q2, _⟩ | rfl
      · exact hs.free a q b q2
      · exact ncov _ _ qk
    · rcases stored_mem hb with ⟨q2, qk⟩ | rfl
      · exact ncov _ _ fun e => qk e.symm
      · have := nw.own
        simp only [covers, decide_true, Bool.true_and, decide_eq_false_iff_not]
        exact Nat.not_le.mpr this
theorem merged_ok {s t : List Nt} (hs : SOk kok vok s) (ht : SOk kok vok t) : SOk kok vok (merged s t) := by
  refine ⟨fun n hn => ?_, merged_sorted s t, fun a ha b hb => merged_free ha hb⟩
  rcases merged_sub hn with q | q
  · exact hs.notes n q
  · exact ht.notes n q
theorem ok_nil : SOk kok vok [] := ⟨fun n hn => (nomatch hn), .nil, fun n hn => (nomatch hn)⟩
/-! ### the law's stores -/
end
section
variable (kok : Str → Prop) (vok : PyData → Prop)
structure Wd (many : Nat) (ss : List (List Nt)) (srs : List Nat) : Prop where
  ls : ss.length = many
  lr : srs.length = many
  m8 : many ≤ 8
  ok : ∀ s, s ∈ ss → SOk kok vok s
  ser : ∀ s, s ∈ ss → ∀ n, n ∈ s → n.host < many ∧ n.ser ≤ srs.getD n.host 0
  past : ∀ s, s ∈ ss → ∀ n, n ∈ s → ∀ j, j < 8 → n.past.getD j 0 ≤ srs.getD j 0
  one : ∀ s, s ∈ ss → ∀ t, t ∈ ss → ∀ a, a ∈ s → ∀ b, b ∈ t → a.host = b.host → a.ser = b.ser → a = b
end
section
variable {kok : Str → Prop} {vok : PyData → Prop} {many : Nat} {ss : List (List Nt)} {srs : List Nat}
theorem wd_start (h : many ≤ 8) : Wd kok vok many (List.replicate many []) (List.replicate many 0) where
  ls := by simp
  lr := by simp
  m8 := h
  ok := fun s hs => by rw [(List.mem_replicate.mp hs).2]; exact ok_nil
  ser := fun s hs n hn => by rw [(List.mem_replicate.mp hs).2] at hn; cases hn
  past := fun s hs n hn => by rw [(List.mem_replicate.mp hs).2] at hn; cases hn
  one := fun s hs _ _ a ha => by rw [(List.mem_replicate.mp hs).2] at ha; cases ha
theorem mem_set' {α : Type} {l : List α} {i : Nat} {x y : α} (h : y ∈ l.set i x) : y ∈ l ∨ y = x := by
  rcases List.mem_or_eq_of_mem_set h with h | h
  · exact .inl h
  · exact .inr h
theorem set_getD {l : List Nat} {i j v : Nat} (hi : i < l.length) : (l.set i v).getD j 0 = if j = i then v else l.getD j 0 := by
  simp only [List.getD_eq_getElem?_getD, List.getElem?_set]
  by_cases e : i = j
  · subst e
    rw [if_pos rfl, if_pos hi, if_pos rfl]
    rfl
  · rw [if_neg e, if_neg (fun q => e q.symm)]
theorem Wd.last (W : Wd kok vok many ss srs) {s : List Nt} (hs : s ∈ ss) {h : Nat} (hh : h < 8) : lastSer s h ≤ srs.getD h 0 := by
  refine last_le (Nat.zero_le _) fun n hn => ⟨W.past s hs n hn h hh, fun e => ?_⟩
  have := (W.ser s hs n hn).2
  rwa [e] at this
theorem wd_write (W : Wd kok vok many ss srs) {h ser : Nat} {s : List Nt} {k : Str} {v : PyData} (hh : h < many) (hs : s ∈ ss) (hl : srs.getD h 0 < ser) (hm : ser ≤ 134217727) (hk : kok k) (hv : vok v) :
    Wd kok vok many (ss.set h (stored s h ser k v)) (srs.set h ser) := by
  have h8 : h < 8 := Nat.lt_of_lt_of_le hh W.m8
  have hr : h < srs.length := by rw [W.lr]; exact hh
  have up : ∀ j, srs.getD j 0 ≤ (srs.set h ser).getD j 0 := fun j => by
    rw [set_getD hr]
    split
    · rename_i e
      subst e
      omega
    · exact Nat.le_refl _
  have old : ∀ n, (n ∈ s ∧ n.key ≠ k) → n ∈ s := fun n h => h.1
  -- a note of the new stores is an old one or the new one
  have from' : ∀ t, t ∈ ss.set h (stored s h ser k v) → ∀ n, n ∈ t → (∃ u, u ∈ ss ∧ n ∈ u) ∨ n = ⟨k, h, ser, pastOf (s.filter (same k)), v⟩ := fun t ht n hn => by
    rcases mem_set' ht with q | rfl
    · exact .inl ⟨t, q, hn⟩
    · rcases stored_mem hn with q | q
      · exact .inl ⟨s, hs, q.1⟩
      · exact .inr q
  refine ⟨by rw [List.length_set, W.ls], by rw [List.length_set, W.lr], W.m8, fun t ht => ?_, fun t ht n hn => ?_, fun t ht n hn j hj => ?_, fun t ht u hu a ha b hb e1 e2 => ?_⟩
  · rcases mem_set' ht with q | rfl
    · exact W.ok t q
    · exact stored_ok (W.ok s hs) h8 (Nat.lt_of_le_of_lt (W.last hs h8) hl) hm hk hv
  · rcases from' t ht n hn with ⟨u, hu, hnu⟩ | rfl
    · obtain ⟨q1, q2⟩ := W.ser u hu n hnu
      exact ⟨q1, Nat.le_trans q2 (up _)⟩
    · refine ⟨hh, ?_⟩
      show ser ≤ (srs.set h ser).getD h 0
      rw [set_getD hr, if_pos rfl]
      exact Nat.le_refl _
  · rcases from' t ht n hn with ⟨u, hu, hnu⟩ | rfl
    · exact Nat.le_trans (W.past u hu n hnu j hj) (up _)
    · refine Nat.le_trans ?_ (up j)
      refine pastOf_le hj (fun m hm => ((W.ok s hs).notes m (List.mem_filter.mp hm).1).toNum) fun m hm => ?_
      have hms := (List.mem_filter.mp hm).1
      refine ⟨W.past s hs m hms j hj, fun e => ?_⟩
      have := (W.ser s hs m hms).2
      rwa [e] at this
  · have fresh : ∀ u, u ∈ ss → ∀ n, n ∈ u → n.host = h → n.ser < ser := fun u hu n hn e => by
      have := (W.ser u hu n hn).2
      rw [e] at this
      omega
    rcases from' t ht a ha with ⟨u1, hu1, ha1⟩ | rfl
    · rcases from' u hu b hb with ⟨u2, hu2, hb2⟩ | rfl
      · exact W.one u1 hu1 u2 hu2 a ha1 b hb2 e1 e2
      · have := fresh u1 hu1 a ha1 e1
        simp only at e2
        omega
    · rcases from' u hu b hb with ⟨u2, hu2, hb2⟩ | rfl
      · have := fresh u2 hu2 b hb2 e1.symm
        simp only at e2
        omega
      · rfl
theorem wd_merge (W : Wd kok vok many ss srs) {h : Nat} {s t : List Nt} (hs : s ∈ ss) (ht : t ∈ ss) : Wd kok vok many (ss.set h (merged s t)) srs := by
  have from' : ∀ u, u ∈ ss.set h (merged s t) → ∀ n, n ∈ u → ∃ u', u' ∈ ss ∧ n ∈ u' := fun u hu n hn => by
    rcases mem_set' hu with q | rfl
    · exact ⟨u, q, hn⟩
    · rcases merged_sub hn with q | q
      · exact ⟨s, hs, q⟩
      · exact ⟨t, ht, q⟩
  refine ⟨by rw [List.length_set, W.ls], W.lr, W.m8, fun u hu => ?_, fun u hu n hn => ?_, fun u hu n hn => ?_, fun u hu u' hu' a ha b hb => ?_⟩
  · rcases mem_set' hu with q | rfl
    · exact W.ok u q
    · exact merged_ok (W.ok s hs) (W.ok t ht)
  · obtain ⟨u', h1, h2⟩ := from' u hu n hn
    exact W.ser u' h1 n h2
  · obtain ⟨u', h1, h2⟩ := from' u hu n hn
    exact W.past u' h1 n h2
  · obtain ⟨v1, h1, h2⟩ := from' u hu a ha
    obtain ⟨v2, h3, h4⟩ := from' u' hu' b hb
    exact W.one v1 h1 v2 h3 a h2 b h4
/-- the names in a store are unlike -/
theorem names_nodup (W : Wd kok vok many ss srs) {s : List Nt} (hs : s ∈ ss) : (s.map fun n => n.host * 134217728 + n.ser).Nodup := by
  have ok := W.ok s hs
  refine List.pairwise_map.mpr (ok.so.imp_of_mem fun {a b} ha hb hp e => ?_)
  have sa := (ok.notes a ha).ser2
  have sb := (ok.notes b hb).ser2
  have := W.one s hs s hs a ha b hb (by omega) (by omega)
  subst this
  exact plt_irr a hp
end
def nname (n : Nt) : Nat := n.host * 134217728 + n.ser
theorem nname_inj {a b : Nt} (ha : a.ser ≤ 134217727) (hb : b.ser ≤ 134217727) (h : nname a = nname b) : a.host = b.host ∧ a.ser = b.ser := by
  unfold nname at h
  omega
end No
end
section
/-! sorted of data: lists of tuples of texts and ints, dicts with such keys -/
namespace SD
open PySem PySem.Spec PyProof.Rows L2
/-- the order of sorted -/
abbrev dLe : V × PyData → V × PyData → Bool := PySem.W.dataLe false Prod.snd
theorem rel_vals : ∀ {us : List Value} {ps : List (V × PyData)}, PySem.W.EachIs (fun u p => RelV p.1 u) us ps → Vals (ps.map Prod.fst) us
  | _, _, .nil => .nil
  | _, _, .cons h t => .cons h (rel_vals t)
theorem vals_rel : ∀ {us : List Value} {ps : List (V × PyData)}, Vals (ps.map Prod.fst) us → PySem.W.EachIs (fun u p => RelV p.1 u) us ps
  | [], [], _ => .nil
  | u :: us, p :: ps, h => by
    cases h with
    | cons h1 h2 => exact .cons h1 (vals_rel h2)
  | [], _ :: _, h => nomatch h
  | _ :: _, [], h => nomatch h
/-- a list of data that can be sorted -/
structure Can (K : PySem.W.Frag) (H : Hp) (ps : List (V × PyData)) : Prop where
  d : ∀ p, p ∈ ps → Dp K H p.1 p.2
  al : PySem.W.AllAlike (ps.map Prod.snd)
  so : PySem.W.Sortable (ps.map Prod.snd)
  le : ps.length ≤ 10000
  dp : ∀ p, p ∈ ps → p.2.depth ≤ 20
section
variable {X : Cx}
theorem reads_all {pins : List (Addr × Obj)} {σ : L2.St} {H : Hp} {s : Shared} (I : L2.Inv X pins σ H s) : ∀ {us : List Value} {ps : List (V × PyData)}, (∀ p, p ∈ ps → Dp X.K H p.1 p.2) → PySem.W.EachIs (fun u p => RelV p.1 u) us ps →
    PySem.W.EachIs (fun u p => ∃ as, Reads s.heap u p.2 as) us ps
  | _, _, _, .nil => .nil
  | _, _, h, .cons r t => .cons (Dp.reads I _ _ _ (h _ (by simp)) r) (reads_all I (fun p hp => h p (by simp [hp])) t)
def rSortD (K : PySem.W.Frag) : List V → Hp → VK → Prop := fun vs H Q => ∃ (a : Addr) (ps : List (V × PyData)), vs = [V.ref a] ∧ SqL K H a (ps.map Prod.fst) ∧ Can K H ps ∧
  ∀ p, H p = none → Q (.ref p) (upd H p (.lst ((ps.mergeSort dLe).map Prod.fst)))
theorem cr_sortedD (hu : X.A.units + 64 < cLine) : CallR X (.builtin "sorted") (rSortD X.K) := by
  intro pins s σ H vs us Q I r h
  obtain ⟨a, ps, rfl, hs, C, q⟩ := h
  obtain ⟨its, rv, hl, hz⟩ := I.list hs
  rw [Vals.ref1 r]
  have e := vals_rel rv
  have hlp := e.length
  refine PySem.W.sorted_data (vs := its) (bs := ps) (enc := Prod.snd) (R := fun u p => RelV p.1 u) hl.isList e (reads_all I C.d e) C.al C.so (by have := C.le; rw [sizeLine_eq]; omega) (fun b hb => by have := C.dp b hb; omega) fun out ho hr => ?_
  obtain ⟨ep, he'⟩ := PyProof.Rows.sortedAll_at s.heap its (List.toArray out)
  have hv := rel_vals hr
  refine ⟨.ref _, upd H (s.heap.objs.size + 1) (.lst ((ps.mergeSort dLe).map Prod.fst)), I.laid (t' := s.toks) (fun _ _ => PyProof.Rows.sortedAll_old) (Nat.le_succ _) ⟨?_, out, ep, hv, he'⟩, rfl, q _ (I.hok.fresh (Nat.le_succ _))⟩
  rw [List.length_map, List.length_mergeSort]
  have := C.le
  rw [sizeLine_eq]
  omega
end
mutual
theorem reads_in {h : Heap} : ∀ {v : Value} {d : PyData} {as : List Addr}, Reads h v d as → ∀ b, b ∈ as → ∃ o, h.get? b = some o
  | _, _, _, .none, b, hb => nomatch hb
  | _, _, _, .bool _, b, hb => nomatch hb
  | _, _, _, .int _ _, b, hb => nomatch hb
  | _, _, _, .str _ _, b, hb => nomatch hb
  | _, _, _, .list ho _ _ hr, b, hb => by
    rcases List.mem_cons.mp hb with rfl | hb
    · exact ⟨_, ho⟩
    · exact readsAll_in hr b hb
  | _, _, _, .tuple _ _ _ hr, b, hb => readsAll_in hr b hb
  | _, _, _, .dict ho _ _ h1 h2, b, hb => by
    rw [List.cons_append] at hb
    rcases List.mem_cons.mp hb with rfl | hb
    · exact ⟨_, ho⟩
    · rcases List.mem_append.mp hb with hb | hb
      · exact readsAll_in h1 b hb
      · exact readsAll_in h2 b hb
theorem readsAll_in {h : Heap} : ∀ {vs : List Value} {ds : List PyData} {as : List Addr}, ReadsAll h vs ds as → ∀ b, b ∈ as → ∃ o, h.get? b = some o
  | _, _, _, .nil, b, hb => nomatch hb
  | _, _, _, .cons h1 h2, b, hb => by
    rcases List.mem_append.mp hb with hb | hb
    · exact reads_in h1 b hb
    · exact readsAll_in h2 b hb
end
section
variable {X : Cx} {pins : List (Addr × Obj)} {σ : L2.St} {H : Hp} {s : Shared}
/-- sorted of what can be walked: the keys of a dict -/
theorem sorted_src {T : String} {r d : Addr} {n : Nat} {P : Nat → Value → Prop} {OK : Heap → Prop} {ps : List (V × PyData)} {Q : VK} (hu : X.A.units + 64 < cLine) (I : L2.Inv X pins σ H s) (S : PySem.W.KdlSrc X.prog X.w T r d n P OK) (hh : X.A.handled = none) (hok : OK s.heap) (hn : n ≤ sizeLine)
    (C : Can X.K H ps) (hv : ∀ acc : Array Value, ItemsOf P acc n → Vals (ps.map Prod.fst) acc.toList) (q : ∀ p, H p = none → Q (.ref p) (upd H p (.lst ((ps.mergeSort dLe).map Prod.fst)))) :
    wpAny (model X.prog X.w) X.A (call (.builtin "sorted") [.ref r]) (EP X pins σ Q) X.xe s := by
  refine Calls.call_function_entry PyProof.Rows.kind_sorted PyProof.Rows.plain_sorted PyProof.Rows.entry_sorted (PyProof.Rows.args_sorted1 _) ?_; unfold Builtin.«sorted»
  refine wpAny_bind (m := checkCount "sorted" 1 1 _) (wpAny_pure ?_); refine wpAny_bind (PySem.W.kdu_collect (A := X.A.in1) S hh hok hn fun h1 u acc k1 it => ?_)
  have rv := hv acc it
  have e := vals_rel rv
  have hl := e.length
  have hC := C.le
  have I1 : L2.Inv X pins σ H { s with heap := h1, toks := u } := I.kept k1
  have er := reads_all I1 C.d e
  refine wpAny_bind (wpAny_newList ?_ (by rw [hl, sizeLine_eq]; omega))
  have g1 : (h1.push (seqObj "list" acc.toList.toArray 0)).get? h1.objs.size = some (seqObj "list" acc.toList.toArray 0) := Heap.get?_push_size _ rfl
  have k2 : ∀ b o, h1.get? b = some o → (h1.push (seqObj "list" acc.toList.toArray 0)).get? b = some o := fun b o e => Heap.get?_push_of_some _ e
  have er2 : PySem.W.EachIs (fun v (p : V × PyData) => ∃ as, Reads (h1.push (seqObj "list" acc.toList.toArray 0)) v p.2 as ∧ h1.objs.size ∉ as) acc.toList ps := er.mono fun v p ⟨as, hr⟩ => ⟨as, PyProof.Rows.Reads.keeps (fun b o e => k2 b o e) hr, fun hb => by
    obtain ⟨o, e2⟩ := reads_in hr _ hb
    exact absurd (Heap.lt_size e2) (Nat.lt_irrefl _)⟩
  show wpAny _ _ _ _ _ { s with heap := h1.push (seqObj "list" acc.toList.toArray 0), toks := u }
  refine wpAny_bind (wpAny_holding (PySem.W.list_sort_data (s := { s with heap := h1.push (seqObj "list" acc.toList.toArray 0), toks := u }) (vs := acc.toList) (bs := ps) (enc := Prod.snd) (R := fun v p => RelV p.1 v) g1 e er2 C.al C.so (by rw [sizeLine_eq]; omega) (fun b hb => by have := C.dp b hb; show X.A.units + 1 + 1 + _ < _; omega) fun out ho hr => ?_))
  obtain ⟨c2, g2⟩ := PyProof.Rows.sortedHeap_at (vs := acc.toList) (out := List.toArray out) g1
  refine wpAny_pure ⟨_, rfl, .ref h1.objs.size, upd H h1.objs.size (.lst ((ps.mergeSort dLe).map Prod.fst)), I1.laid (t' := u) (fun b o e2 => ?_) (Nat.le_refl _) ⟨?_, out, c2, rel_vals hr, g2⟩, rfl, q _ (I1.hok.fresh (Nat.le_refl _))⟩
  · rw [PyProof.Rows.sortedHeap_old (Nat.ne_of_lt (Heap.lt_size e2)) (Nat.lt_trans (Heap.lt_size e2) (by rw [Heap.size_push]; exact Nat.lt_succ_self _))]
    exact k2 b o e2
  · rw [List.length_map, List.length_mergeSort, sizeLine_eq]
    omega
end
end SD
end
section
/-! sorted(xs, key=f), f a def that says `return x[:3]`, xs tuples that begin with a text and two ints -/
namespace SD
open PySem PySem.Spec PyProof.Rows L2
/-- what f must be -/
structure Take3 (K : PySem.W.Frag) (f : Addr) : Prop where
  run : ∀ (prog : Program) (w : World) (A : Around) (s : Shared) (a : Addr) (u0 u1 u2 : Value) (us : List Value) (k : Str) (i j : Int), K.In s.heap → s.heap.NoLimit → A.depth + 2 < recursionLimit →
    RelV (.str k) u0 → RelV (.int i) u1 → RelV (.int j) u2 → us ≠ [] → us.length ≤ 1000 → IsTup s.heap a (u0 :: u1 :: u2 :: us).toArray →
    wpAny (model prog w) A (call (.ref f) [.ref a]) (PySem.W.KeyPure (.tuple [.str k, .int i, .int j]) s) (fun _ _ => False) s
theorem take3 {K : PySem.W.Frag} {f : Addr} {name qual x : Str} {params : Arguments} {scope : Scope} {dV kV doc pm cdv ct oc : Value} {an od : Option Addr} {osl : Array (Option Value)} {k1 : Nat} {p1 p2 p3 p4 p5 : Pos}
    (lk : K.lookup f = some ⟨oc, od, .func (PySem.W.fnOf name qual params [.Return (some (.Subscript (.Name x p1) (.Slice none (some (.Constant (.int 3) k1 p3)) none p2) p4)) p5] scope dV kV doc pm an cdv ct), osl⟩) (hcd : PySem.W.codeIn K cdv qual = true)
    (hb : Binds K (PySem.W.fnOf name qual params [.Return (some (.Subscript (.Name x p1) (.Slice none (some (.Constant (.int 3) k1 p3)) none p2) p4)) p5] scope dV kV doc pm an cdv ct) [x] [])
    (hcell : ∀ y ∈ scope.names, y.2 ≠ .cell) (hloc : scope.names.lookup x = some .local) (hk : scope.kind = .function) (hco : scope.isCoroutine = false) (hgen : scope.isGenerator = false) (hdb : (x == ("__debug__" : Str)) = false)
    (hki : ∀ L, (callEnv (PySem.W.fnOf name qual params [.Return (some (.Subscript (.Name x p1) (.Slice none (some (.Constant (.int 3) k1 p3)) none p2) p4)) p5] scope dV kV doc pm an cdv ct) L f).kindOf x = some .local) : Take3 K f := by
  refine ⟨fun prog w A s a u0 u1 u2 us k i j KX lim hd r0 r1 r2 hne hus ht => ?_⟩
  obtain ⟨t0, rfl⟩ := r0
  obtain ⟨t1, rfl⟩ := r1
  obtain ⟨t2, rfl⟩ := r2
  refine wpAny_call (codeAny_call_def (binds := [(x, .ref a)]) (by omega) (KX _ _ lk) rfl lim (PySem.W.codeRec_of KX hcd) rfl (hb s [.ref a] KX rfl) hcell (fun y hy => ?_) (fun h₀ hns keep => ?_) hco hgen hk)
  · rw [List.mem_singleton.mp hy]
    exact hloc
  · refine wpAny_execs_cons (wpAny_Return_some (Subscript_ (ldc hk (hki _) hns (v := .ref a) (by simp) ?_ hdb)))
    refine wpAny_Slice ?_
    rw [evalPart_none, evalPart_some]
    refine wpAny_pure (wpAny_Constant_int ?_)
    refine wpAny_pure ?_
    have ht0 : IsTup h₀ a (Value.str k t0 :: .int i t1 :: .int j t2 :: us).toArray := by
      obtain ⟨o, ho, hc, n, hdt⟩ := ht
      exact ⟨o, keep a o ho, hc, n, hdt⟩
    have keep1 : ∀ (ob : Obj) b o, s.heap.get? b = some o → (h₀.push ob).get? b = some o := fun ob b o e => Heap.get?_push_of_some _ (keep b o e)
    have hz : (Value.str k t0 :: .int i t1 :: .int j t2 :: us).toArray.size = us.length + 3 := by simp
    have hs : us.length ≤ sizeLine := by rw [sizeLine_eq]; omega
    have hpos : 0 < us.length := List.length_pos_iff.mpr hne
    have e0 : HT.sIx (us.length + 3) 0 none = 0 := rfl
    have e3 : HT.sIx (us.length + 3) (us.length + 3) (some 3) = 3 := by
      have := HT.sIx_nat (us.length + 3) (us.length + 3) 3
      rw [show ((3 : Nat) : Int) = 3 from rfl] at this
      rw [this]
      omega
    have ht1 : IsTup (h₀.push { cls := .type "slice", data := .fields #[.none, .int 3 (s.toks + 1), .none] }) a (Value.str k t0 :: .int i t1 :: .int j t2 :: us).toArray := by
      obtain ⟨o, ho, hc, n, hdt⟩ := ht0
      exact ⟨o, Heap.get?_push_of_some _ ho, hc, n, hdt⟩
    refine tail_any (ops := [.ref _, .ref a]) (T := "tuple") (IsTup.typeIs (items := (Value.str k t0 :: .int i t1 :: .int j t2 :: us).toArray) ht1) PyProof.Rows.slot_tuple_getitem.lookup ?_ (by with_unfolding_all rfl)
    refine HT.getItem_tuple_cut ht1 (Heap.IsSliceOf.new ..) .none (.int 3 _) (by rw [hz, e0, e3]; omega) ?_ (by rw [hz, sizeLine_eq]; omega)
    rw [hz, e0, e3]
    refine ⟨_, _, rfl, fun b o e => Heap.get?_push_of_some _ (keep1 _ b o e), ?_⟩
    refine Reads.tuple (as := []) (Heap.get?_push_size _ rfl) rfl rfl ?_
    exact ReadsAll.cons (.str k t0) (.cons (.int i t1) (.cons (.int j t2) .nil))

/-- a pair of a tuple and its key -/
def IsNk (K : PySem.W.Frag) (H : Hp) (p : V × PyData) : Prop := ∃ (b : Addr) (k : Str) (i j : Int) (xs : List V), p.1 = V.ref b ∧ SqT K H b (.str k :: .int i :: .int j :: xs) ∧ xs ≠ [] ∧ xs.length ≤ 1000 ∧ p.2 = .tuple [.str k, .int i, .int j]
def rSortTake (K : PySem.W.Frag) (f : Addr) : List V → List V → Hp → VK → Prop := fun vs zs H Q => ∃ (a : Addr) (ps : List (V × PyData)), vs = [V.ref a] ∧ zs = [V.ref f] ∧ SqL K H a (ps.map Prod.fst) ∧ ps.length ≤ 10000 ∧ (∀ p, p ∈ ps → IsNk K H p) ∧
  ∀ q, H q = none → Q (.ref q) (upd H q (.lst ((ps.mergeSort dLe).map Prod.fst)))
theorem cr_sortTake {X : Cx} {f : Addr} (T : Take3 X.K f) (hu : X.A.units + 64 < cLine) (hd : X.A.depth + 2 < recursionLimit) : CallRK X (.builtin "sorted") [Str.ofString "key"] (rSortTake X.K f) := by
  intro pins s σ H vs zs us ws Q I r rz h
  obtain ⟨a, ps, rfl, rfl, hs, hl, hp, q⟩ := h
  obtain ⟨its, rv, hli, hz⟩ := I.list hs
  rw [Vals.ref1 r]
  obtain ⟨w1, rfl, e1⟩ := vals1 rz
  obtain rfl : w1 = Value.ref f := e1
  have e := vals_rel rv
  have hlp := e.length
  refine PySem.W.sorted_key_data (b := false) (vs := its) (bs := ps) (f := .ref f) (R := fun u p => RelV p.1 u) Prod.snd hli.isList e ?_ ?_ (by rw [sizeLine_eq]; omega) (fun p hm => ?_) (ksk_s1 _ _) (fun _ => ksk_l1 _ _) (fun _ => ksk_t1 _ _) (fun v p hR hm h1 tk kp => ?_) fun out c h1 tk kp _ hD ho eo => ?_
  · intro x hx y hy
    obtain ⟨p, hp1, rfl⟩ := List.mem_map.mp hx
    obtain ⟨p', hp2, rfl⟩ := List.mem_map.mp hy
    obtain ⟨_, k, i, j, _, _, _, _, _, e2⟩ := hp p hp1
    obtain ⟨_, k', i', j', _, _, _, _, _, e2'⟩ := hp p' hp2
    rw [e2, e2']
    simp [PySem.W.alike, PySem.W.alikeAll]
  · refine .inl fun x hx => ?_
    obtain ⟨p, hp1, rfl⟩ := List.mem_map.mp hx
    obtain ⟨_, k, i, j, _, _, _, _, _, e2⟩ := hp p hp1
    exact ⟨_, _, e2⟩
  · obtain ⟨_, k, i, j, _, _, _, _, _, e2⟩ := hp p hm
    rw [e2]
    have hdp : (PyData.tuple [.str k, .int i, .int j]).depth = 1 := by simp [PyData.depth, PyData.depthAll]
    omega
  · obtain ⟨b, k, i, j, xs, e1, hsq, hne, hxl, e2⟩ := hp p hm
    rw [e1] at hR
    cases hR
    rw [e2]
    obtain ⟨its2, r2, ⟨o, ho, hc, n, hdt⟩, _⟩ := I.tuple hsq
    cases its2 with
    | nil => cases r2
    | cons u0 us1 => cases us1 with
      | nil => cases r2 with | cons _ r2 => cases r2
      | cons u1 us2 => cases us2 with
        | nil => cases r2 with | cons _ r2 => cases r2 with | cons _ r2 => cases r2
        | cons u2 us3 =>
          obtain ⟨r0, r1, r22, r3⟩ : RelV (.str k) u0 ∧ RelV (.int i) u1 ∧ RelV (.int j) u2 ∧ Vals xs us3 := by
            cases r2 with | cons r0 r2 => cases r2 with | cons r1 r2 => cases r2 with | cons r22 r3 => exact ⟨r0, r1, r22, r3⟩
          refine T.run _ _ _ _ b u0 u1 u2 us3 k i j (I.kIn.keeps kp) (I.nolimit.keeps kp) (by show X.A.depth + 2 < _; exact hd) r0 r1 r22 (fun hn => hne ?_) (by rw [← r3.length]; exact hxl) ⟨o, kp b o ho, hc, n, hdt⟩
          rw [hn] at r3
          cases r3
          rfl
  · have hv := rel_vals eo
    refine ⟨.ref _, upd H (s.heap.objs.size + 1) (.lst ((ps.mergeSort dLe).map Prod.fst)), I.laid (t' := tk) kp (Nat.le_succ _) ⟨?_, out, c, hv, hD⟩, rfl, q _ (I.hok.fresh (Nat.le_succ _))⟩
    rw [List.length_map, List.length_mergeSort, sizeLine_eq]
    omega
end SD
end
section
/-! sorted(d) and sorted(d.keys()), d a dict with tuples of ints and texts for keys -/
namespace SD
open PySem PySem.Spec PyProof.Rows L2
/-- a key as data -/
def keyD : Key → PyData
  | .inl i => .int i
  | .inr x => .str x
def keysD (k : List Key) : PyData := .tuple (k.map keyD)
theorem dpKeys (K : PySem.W.Frag) (H : Hp) : ∀ k : List Key, DpAll K H (k.map kV) (k.map keyD)
  | [] => .nil
  | .inl i :: k => .cons (.int i) (dpKeys K H k)
  | .inr x :: k => .cons (.str x) (dpKeys K H k)
/-- the keys of a dict, each with its data -/
abbrev KeyPs (H : Hp) (kvs : List (List Key × V)) (ps : List (V × PyData)) : Prop := Paired (fun kv p => ∃ b, p.1 = V.ref b ∧ H b = some (.tup (kv.1.map kV)) ∧ p.2 = keysD kv.1) kvs ps
theorem keyPs_of {H : Hp} {kvs : List (List Key × V)} {xs : List (List Key × Addr × Value)} (r : KT H kvs xs) : KeyPs H kvs (xs.map fun x => (V.ref x.2.1, keysD x.1)) := by
  unfold KeyPs
  induction r with
  | nil => exact Paired.nil
  | cons h t ih => exact Paired.cons ⟨_, rfl, h.2.1, by rw [h.1]⟩ ih
theorem KeyPs.snd {H : Hp} {kvs : List (List Key × V)} {ps : List (V × PyData)} (h : KeyPs H kvs ps) : ps.map Prod.snd = kvs.map fun kv => keysD kv.1 := by
  induction h with
  | nil => rfl
  | cons h t ih =>
    obtain ⟨_, _, _, e⟩ := h
    rw [List.map_cons, List.map_cons, ih, e]
theorem KeyPs.mem {H : Hp} {kvs : List (List Key × V)} {ps : List (V × PyData)} (h : KeyPs H kvs ps) : ∀ p, p ∈ ps → ∃ kv, kv ∈ kvs ∧ ∃ b, p.1 = V.ref b ∧ H b = some (.tup (kv.1.map kV)) ∧ p.2 = keysD kv.1 := by
  induction h with
  | nil => intro p hp; cases hp
  | cons h t ih =>
    intro p hp
    rcases List.mem_cons.mp hp with rfl | hp
    · exact ⟨_, List.mem_cons_self, h⟩
    · obtain ⟨kv, m, r⟩ := ih p hp
      exact ⟨kv, List.mem_cons_of_mem _ m, r⟩
/-- the keys can be sorted -/
structure KeysOk (kvs : List (List Key × V)) : Prop where
  al : PySem.W.AllAlike (kvs.map fun kv => keysD kv.1)
  ne : ∀ kv, kv ∈ kvs → kv.1 ≠ []
  le : kvs.length ≤ 10000
theorem depth_keys : ∀ k : List Key, PyData.depthAll (k.map keyD) = 0
  | [] => by simp [PyData.depthAll]
  | .inl i :: k => by
    have ih := depth_keys k
    simp only [List.map_cons, keyD, PyData.depthAll, PyData.depth, ih]
    rfl
  | .inr x :: k => by
    have ih := depth_keys k
    simp only [List.map_cons, keyD, PyData.depthAll, PyData.depth, ih]
    rfl
theorem KeysOk.can {K : PySem.W.Frag} {H : Hp} {kvs : List (List Key × V)} {ps : List (V × PyData)} (h : KeysOk kvs) (kp : KeyPs H kvs ps) : Can K H ps where
  d := fun p hp => by
    obtain ⟨kv, hm, b, e1, hb, e2⟩ := kp.mem p hp
    rw [e1, e2]
    exact Dp.tup (.inl (.inl hb)) (dpKeys K H kv.1)
  al := by rw [kp.snd]; exact h.al
  so := by
    rw [kp.snd]
    refine .inl fun x hx => ?_
    obtain ⟨kv, hm, rfl⟩ := List.mem_map.mp hx
    have hne := h.ne kv hm
    cases e : kv.1 with
    | nil => exact absurd e hne
    | cons k ks => exact ⟨keyD k, ks.map keyD, by simp [keysD, e]⟩
  le := by rw [← Paired.length kp]; exact h.le
  dp := fun p hp => by
    obtain ⟨kv, hm, b, e1, hb, e2⟩ := kp.mem p hp
    rw [e2]
    simp only [keysD, PyData.depth, depth_keys]
    omega
/-- what the walk over the keys has gathered -/
theorem keys_items {P : Program} {w : World} {es : Array DictEntry} {ks : List (List Key × Addr × Value)} (he : es.toList = ks.map (entryOfKey (tupleKind (mixKind P w)))) (acc : Array Value) (it : ItemsOf (fun i v => ∃ en : DictEntry, es[i]? = some en ∧ v = en.key) acc es.size) :
    Vals ((ks.map fun x => (V.ref x.2.1, keysD x.1)).map Prod.fst) acc.toList := by
  have l1 : es.size = ks.length := size_of_entries he
  have ea : acc.toList = ks.map fun x => Value.ref x.2.1 := by
    have hl : acc.toList.length = ks.length := by rw [Array.length_toList, it.1]; exact l1
    refine List.ext_getElem? fun j => ?_
    rw [List.getElem?_map]
    by_cases hj : j < ks.length
    · obtain ⟨en, hen, hv⟩ := it.2 j acc.toList[j] (by rw [← Array.getElem?_toList]; exact List.getElem?_eq_getElem (by omega))
      have qe := entry_at he j
      rw [hen, List.getElem?_eq_getElem hj] at qe
      have e2 : en = entryOfKey (tupleKind (mixKind P w)) ks[j] := Option.some.inj qe
      rw [List.getElem?_eq_getElem (by omega), hv, e2, List.getElem?_eq_getElem hj]
      rfl
    · rw [List.getElem?_eq_none (by omega), List.getElem?_eq_none (by omega)]
      rfl
  have eb : acc.toList = (ks.map fun x => x.2.1).map Value.ref := by rw [ea, List.map_map]; rfl
  rw [eb, List.map_map]
  have e3 : (ks.map (Prod.fst ∘ fun x : List Key × Addr × Value => (V.ref x.2.1, keysD x.1))) = (ks.map fun x => x.2.1).map V.ref := by rw [List.map_map]; rfl
  rw [e3]
  exact vals_refs _
section
variable {X : Cx}
def rSortDT : List V → Hp → VK → Prop := fun xs H Q => ∃ (d : Addr) (kvs : List (List Key × V)), xs = [V.ref d] ∧ Rd H d (.dT kvs) ∧ KeysOk kvs ∧
  ∀ (ps : List (V × PyData)) (p : Addr), H p = none → KeyPs H kvs ps → Q (.ref p) (upd H p (.lst ((ps.mergeSort dLe).map Prod.fst)))
theorem cr_sortDT (hc : X.calm = true) (hu : X.A.units + 64 < cLine) : CallR X (.builtin "sorted") rSortDT := by
  intro pins s σ H xs us Q I r h
  obtain ⟨d, kvs, rfl, hd, ok, q⟩ := h
  rw [Vals.ref1 r]
  obtain ⟨z, hs, ks, pr, o, es, ep, ho, hx, hdt, he, hn⟩ := (show ObjOk X.prog X.w H s.heap d (.dT kvs) from hd.ok I.hok)
  have l1 : es.size = ks.length := size_of_entries he
  have l2 : kvs.length = ks.length := Paired.length pr
  have kp := keyPs_of pr
  exact sorted_src hu I (kdl_raw hs hx hdt) (I.ok.hd hc) ho (by omega) (ok.can kp) (fun acc it => keys_items he acc it) fun p hp => q _ p hp kp
end

/-! d.keys() of such a dict -/
section
variable {prog : Program} {w : World} {A : Around} {o : Obj} {es : Array DictEntry} {ep : Nat}
theorem meets_keysT (d : Addr) (lo : (d == sysModules) = false) : PySem.MeetsIn prog w (Builtin.«dict.keys» ⟨[.ref d], []⟩) (fun _ R s => s.TypeIs (.ref d) "dict" ∧
    R (.ok (.ret (.ref s.heap.objs.size))) { s with heap := s.heap.push { cls := .type "dict_keys", data := .fields #[.ref d] } }) :=
  .of_wp fun A R s ⟨hT, h⟩ => by
    refine wpAny_bind (m := Builtin.Dict.noArgs _ _) (wpAny_bind (wpAny_notOrdered_dict hT (wpAny_pure ?_)))
    refine wpAny_bind (m := Builtin.Dict.showsAll d) ?_
    unfold Builtin.Dict.showsAll
    rw [lo]
    exact wpAny_pure (wpAny_bind (wpAny_newObj_type (wpAny_pure ⟨_, rfl, h⟩)))
theorem iter_keysT {v d : Addr} {s : Shared} {E : Value → Shared → Prop} {Q : Value → Shared → Prop} (hv : PySem.W.KdlKeysView s.heap v d) (ho : s.heap.get? d = some o) (hdt : o.data = .dict es ep)
    (hQ : Q (.ref s.heap.objs.size) { s with heap := s.heap.push { cls := .type "dict_keyiterator", data := .fields #[.ref d, .int 0 0, .int es.size 0, .int ep 0] } }) : wpAny (model prog w) A (pyIter (.ref v)) Q E s := by
  obtain ⟨ov, hov, hcv, hdv⟩ := id hv
  refine wpAny_pyIter_slot hv.typeIs PySem.W.kdl_slot_keys_iter (wpAny_call_entry PySem.W.kdl_slot_keys_iter hv.typeIs PySem.W.kdl_entry_keys_iter ?_ (PySem.W.kdl_args_keys_iter _))
  unfold Builtin.«dict_keys.__iter__»
  refine wpAny_bind (wpAny_pure (wpAny_bind ?_))
  unfold Builtin.Dict_items.dictOf
  refine wpAny_bind (wpAny_field hov hdv (x := .ref d) rfl (wpAny_pure (wpAny_bind ?_)))
  unfold Builtin.Dict_items.newIterator
  refine wpAny_bind (wpAny_dictEntries ho hdt (wpAny_bind (wpAny_dictEpoch ho hdt ?_)))
  dsimp only
  rw [if_neg (show ¬ (Builtin.Dict_items.ownsTuple "dict_keyiterator" = true) by decide)]
  exact wpAny_newObj_type (wpAny_pure ⟨_, rfl, "dict_keyiterator", _, ⟨_, Heap.get?_push_size _ rfl, rfl⟩, PySem.F.slot_dict_keyiterator_next.lookup, by simpa [rawInt] using hQ⟩)
theorem src_keysT {r d : Addr} (hdt : o.data = .dict es ep) :
    PySem.W.KdlSrc prog w "dict_keys" r d es.size (fun i v => ∃ en : DictEntry, es[i]? = some en ∧ v = en.key) (fun h => PySem.W.KdlKeysView h r d ∧ h.get? d = some o) where
  type := fun _ hm => hm.1.typeIs
  there := fun _ hm => ⟨let ⟨_, ho, _⟩ := hm.1; Heap.lt_size ho, Heap.lt_size hm.2⟩
  keep := fun _ _ hm hk => ⟨let ⟨o, ho, x⟩ := hm.1; ⟨o, hk r (.inl rfl) o ho, x⟩, hk d (.inr rfl) _ hm.2⟩
  notList := by decide
  notTuple := by decide
  hint := fun _ _ _ _ hm hq => PySem.W.kdl_hint_keys hm.1.typeIs hq
  iter := fun _ s hh hm => ⟨_, _, (fun _ _ hq => iter_keysT hm.1 hm.2 hdt hq), walks_raw hh _ d (Nat.ne_of_lt (Heap.lt_size hm.2)) hdt, ⟨⟨_, Heap.get?_push_size _ rfl, rfl, rfl⟩, Heap.get?_push_of_some _ hm.2⟩⟩
end
section
variable {X : Cx} {o : Expr} {p pos apos mpos : Pos} {td : TE}
def tSortKeysT (td : TE) : TE := fun σ H Q => td σ H fun x H1 => ∃ (d : Addr) (kvs : List (List Key × V)), x = V.ref d ∧ Rd H1 d (.dT kvs) ∧ KeysOk kvs ∧
  ∀ (ps : List (V × PyData)) (p : Addr), H1 p = none → KeyPs H1 kvs ps → Q (.ref p) (upd H1 p (.lst ((ps.mergeSort dLe).map Prod.fst)))
theorem pe_sortKeysT (hc : X.calm = true) (hu : X.A.units + 64 < cLine) (hg : Gl X "sorted") (hm : X.mg "sorted" = none) (hd : PE X o td) (hbase : attributeBase o "keys" X.env (eval o X.env) = eval o X.env := by rfl) (hline : (apos.endLine == mpos.line) = true := by rfl)
    (hse : starEach [Expr.Call (.Attribute o "keys" apos) [] [] mpos] X.env = [(false, eval (Expr.Call (.Attribute o "keys" apos) [] [] mpos) X.env)] := by rfl) :
    PE X (.Call (.Name "sorted" p) [.Call (.Attribute o "keys" apos) [] [] mpos] [] pos) (tSortKeysT td) := by
  refine ⟨fun pins s σ H Q I h => ?_⟩
  refine wpAny_Call_Name_kw (ld_blt I hg hm (u := .builtin "sorted") (by first | rfl | decide +kernel) ?_ (by first | decide +kernel | decide) (by first | decide +kernel | decide))
  rw [hse]
  refine PySem.callWith_builtin1 (wpAny_Call_method0_late hbase hline (thn (hd.run pins s σ H _ I h) fun v s1 ⟨x, H1, I1, r1, d, kvs, ex, hr, ok, q⟩ => ?_))
  subst ex
  obtain rfl : v = Value.ref d := r1
  obtain ⟨z, hs, ks, pr, ob, es, ep, ho, hx, hdt, he, hn⟩ := (show ObjOk X.prog X.w H1 s1.heap d (.dT kvs) from hr.ok I1.hok)
  have l1 : es.size = ks.length := size_of_entries he
  have l2 : kvs.length = ks.length := Paired.length pr
  have kp := keyPs_of pr
  refine ⟨"dict", "dict.keys", F.plainAttrs_dict, F.slot_dict_keys, F.type_dict_keys, ⟨ob, ho, hx.1⟩, fun b e => ?_, Calls.callWith_builtin rfl (PySem.evalArgs_none ?_)⟩
  · cases e
    exact ⟨ob, ho, hx.2.1⟩
  refine call_meetsIn F.slot_dict_keys ⟨ob, ho, hx.1⟩ F.entry_dict_keys (F.args_dict_keys_1 _) (meets_keysT d hs) ⟨⟨ob, ho, hx.1⟩, ?_⟩
  have I2 : L2.Inv X pins σ H1 { s1 with heap := s1.heap.push { cls := .type "dict_keys", data := .fields #[.ref d] } } := I1.kept (t' := s1.toks) fun b u e => Heap.get?_push_of_some _ e
  exact sorted_src hu I2 (src_keysT (r := s1.heap.objs.size) (d := d) hdt) (I.ok.hd hc) ⟨⟨_, Heap.get?_push_size _ rfl, rfl, rfl⟩, Heap.get?_push_of_some _ ho⟩ (by omega) (ok.can kp) (fun acc it => keys_items he acc it) fun p hp => q _ p hp kp
end
end SD
end
section
/-! <, >= of data (texts, tuples of texts and ints) -/
namespace SD
open PySem PySem.Spec PyProof.Rows L2
section
variable {X : Cx}
def rLtD (K : PySem.W.Frag) : R2 := fun x y H Q => ∃ d e, Dp K H x d ∧ Dp K H y e ∧ PySem.W.alike d e = true ∧ d ≠ .none ∧ d.depth ≤ 20 ∧ Q (.bl (PySem.W.dataLt d e)) H
def rGeD (K : PySem.W.Frag) : R2 := fun x y H Q => ∃ d e, Dp K H x d ∧ Dp K H y e ∧ PySem.W.alike d e = true ∧ d ≠ .none ∧ d.depth ≤ 20 ∧ Q (.bl (!PySem.W.dataLt d e)) H
theorem op_ltD (hu : X.A.units + 64 < cLine) : OpR X (compareOp .Lt) (rLtD X.K) := by
  intro pins s σ H x y v u Q I rx ry h
  obtain ⟨d, e, hd, he, ha, hn, hdp, q⟩ := h
  obtain ⟨as, r1⟩ := Dp.reads I d _ _ hd rx
  obtain ⟨bs, r2⟩ := Dp.reads I e _ _ he ry
  exact PySem.W.rcLt_alike d e X.A s v u as bs r1 r2 ha hn (by omega) _ _ _ _ ⟨.bl _, H, I, rfl, q⟩
theorem op_geD (hu : X.A.units + 64 < cLine) : OpR X (compareOp .GtE) (rGeD X.K) := by
  intro pins s σ H x y v u Q I rx ry h
  obtain ⟨d, e, hd, he, ha, hn, hdp, q⟩ := h
  obtain ⟨as, r1⟩ := Dp.reads I d _ _ hd rx
  obtain ⟨bs, r2⟩ := Dp.reads I e _ _ he ry
  exact PySem.W.rcGe_alike d e X.A s v u as bs r1 r2 ha hn (by omega) _ _ _ _ ⟨.bl _, H, I, rfl, q⟩
end
end SD
end
section
/-! places as data, and their order -/
namespace No
open PySem PySem.W
abbrev pl2 (n : Nt) : PyData := .tuple [.str n.key, .int (n.host : Int)]
abbrev pl3 (n : Nt) : PyData := .tuple [.str n.key, .int (n.host : Int), .int (n.ser : Int)]
theorem lt_self (d : PyData) : dataLt d d = false := PyProof.Rows.lex_irrefl (O := PyProof.Rows.itemOrd) _
theorem lt_trans' {a b c : PyData} (h : dataLt a b = true) (h2 : dataLt b c = true) : dataLt a c = true := PyProof.Rows.lex_trans (O := PyProof.Rows.itemOrd) _ _ _ h h2
theorem nlt_trans {a b c : PyData} (h : dataLt b a = false) (h2 : dataLt c b = false) : dataLt c a = false := by
  cases e : dataLt c a with
  | false => rfl
  | true =>
    cases q : dataLt a b with
    | true => rw [lt_trans' e q] at h2; cases h2
    | false =>
      have e1 : keyToks a = keyToks b := PyProof.Rows.lex_total (O := PyProof.Rows.itemOrd) _ _ q h
      have e2 : dataLt c b = dataLt c a := by unfold dataLt; rw [e1]
      rw [e2, e] at h2
      cases h2
theorem nlt_total (a b : PyData) : (!dataLt b a || !dataLt a b) = true := by
  cases e : dataLt b a with
  | false => rfl
  | true =>
    cases q : dataLt a b with
    | false => rfl
    | true => have := lt_trans' e q; rw [lt_self] at this; cases this
theorem eqv_str (x y : Str) : PyData.eqv (.str x) (.str y) = decide (x = y) := by
  simp only [PyData.eqv]
  by_cases h : x = y
  · subst h; simp
  · simp [h]
theorem eqv_int (x y : Int) : PyData.eqv (.int x) (.int y) = decide (x = y) := by
  simp only [PyData.eqv]
  try (by_cases h : x = y <;> simp [h])
theorem lt_head_str {x y : Str} {xs ys : List PyData} : dataLt (.tuple (.str x :: xs)) (.tuple (.str y :: ys)) = (decide (kl x < kl y) || (decide (x = y) && dataLt (.tuple xs) (.tuple ys))) := by
  rw [dataLt_tuple, dataLt_tuple]
  by_cases h : x = y
  · subst h
    rw [dataLt_all_yes (by simp [alike]) (by rw [eqv_str]; simp)]
    have : ¬ kl x < kl x := kl_irr x
    simp [this]
  · rw [dataLt_all_no (by simp [alike]) (by rw [eqv_str]; simp [h]), dataLt_str]
    simp [h]
theorem lt_head_int {x y : Int} {xs ys : List PyData} : dataLt (.tuple (.int x :: xs)) (.tuple (.int y :: ys)) = (decide (x < y) || (decide (x = y) && dataLt (.tuple xs) (.tuple ys))) := by
  rw [dataLt_tuple, dataLt_tuple]
  by_cases h : x = y
  · subst h
    rw [dataLt_all_yes (by simp [alike]) (by rw [eqv_int]; simp)]
    simp
  · rw [dataLt_all_no (by simp [alike]) (by rw [eqv_int]; simp [h]), dataLt_int]
    simp [h]
theorem lt_nil : dataLt (.tuple []) (.tuple []) = false := by
  rw [dataLt_tuple]
  exact PyProof.Rows.lex_irrefl (O := PyProof.Rows.itemOrd) _
instance (a b : Nt) : Decidable (plt a b) := inferInstanceAs (Decidable (kl a.key < kl b.key ∨ (a.key = b.key ∧ a.host < b.host)))
theorem lt_pl2 (a b : Nt) : dataLt (pl2 a) (pl2 b) = decide (plt a b) := by
  rw [lt_head_str, lt_head_int, lt_nil]
  unfold plt
  have e : decide ((a.host : Int) < (b.host : Int)) = decide (a.host < b.host) := by
    by_cases h : a.host < b.host
    · rw [decide_eq_true h, decide_eq_true (by omega)]
    · rw [decide_eq_false h, decide_eq_false (by omega)]
  rw [e, Bool.and_false, Bool.or_false]
  rw [Bool.eq_iff_iff]
  simp
theorem lt_pl3 {a b : Nt} (h : dataLt (pl3 a) (pl3 b) = false) : ¬ plt a b := by
  rw [lt_head_str, lt_head_int] at h
  rintro (q | ⟨q1, q2⟩)
  · simp [q] at h
  · have : (a.host : Int) < (b.host : Int) := by omega
    simp [q1, this] at h
/-- dLe of places -/
theorem le_pl2 (a b : Nt) (v u : L2.V) : SD.dLe (v, pl2 a) (u, pl2 b) = ple a b := by
  show (!dataLt (pl2 b) (pl2 a)) = _
  rw [lt_pl2, Bool.eq_iff_iff, ple_iff]
  simp
/-- notes with their refs, sorted by place -/
theorem sort_pl2 (zs : List (L2.V × Nt)) : (zs.map fun z => (z.1, pl2 z.2)).mergeSort SD.dLe = ((zs.mergeSort fun a b => ple a.2 b.2).map fun z => (z.1, pl2 z.2)) := by
  refine (List.map_mergeSort fun a _ b _ => ?_).symm
  exact (le_pl2 a.2 b.2 a.1 b.1).symm
/-- sorted by the place and the serial: the one order of a store -/
theorem sort_pl3 {zs : List (L2.V × Nt)} {l : List Nt} (hp : l.Perm (zs.map Prod.snd)) (hs : l.Pairwise plt) : ∃ ys : List (L2.V × Nt), ys.Perm zs ∧ ys.map Prod.snd = l ∧ (zs.map fun z => (z.1, pl3 z.2)).mergeSort SD.dLe = ys.map fun z => (z.1, pl3 z.2) := by
  have e : (zs.map fun z => (z.1, pl3 z.2)).mergeSort SD.dLe = ((zs.mergeSort fun a b => SD.dLe (a.1, pl3 a.2) (b.1, pl3 b.2)).map fun z => (z.1, pl3 z.2)) := (List.map_mergeSort (r := fun a b : L2.V × Nt => SD.dLe (a.1, pl3 a.2) (b.1, pl3 b.2)) (s := SD.dLe) (f := fun z : L2.V × Nt => (z.1, pl3 z.2)) fun a _ b _ => rfl).symm
  refine ⟨_, List.mergeSort_perm _ _, ?_, e⟩
  refine eq_of_perm (R := plt) (hp.trans ((List.mergeSort_perm _ _).map Prod.snd).symm) hs ?_
  refine List.pairwise_map.mpr ((List.pairwise_mergeSort (le := fun a b : L2.V × Nt => SD.dLe (a.1, pl3 a.2) (b.1, pl3 b.2)) (fun a b c h1 h2 => ?_) (fun a b => ?_) zs).imp fun {a b} q => ?_)
  · have h1' : (!dataLt (pl3 b.2) (pl3 a.2)) = true := h1
    have h2' : (!dataLt (pl3 c.2) (pl3 b.2)) = true := h2
    rw [Bool.not_eq_true'] at h1' h2'
    show (!dataLt (pl3 c.2) (pl3 a.2)) = true
    rw [nlt_trans h1' h2']
    rfl
  · exact nlt_total _ _
  · have q' : (!dataLt (pl3 b.2) (pl3 a.2)) = true := q
    rw [Bool.not_eq_true'] at q'
    exact lt_pl3 q'
end No
end
section
/-! set(xs), xs a list of ints: a set of its own -/
namespace SLs
open PySem PySem.Spec PyProof.Rows L2
/-- a set without members, as it is made -/
abbrev eS (w : World) : Obj := { cls := .type "set", dict := none, data := .set #[] 0 (.fresh 0 0 (!w.params.followText "set-order")) }
section
variable {P : Program} {w : World} {A : Around} {E : Value → Shared → Prop} {s : Shared}
theorem made {l : Addr} {its : Array Value} (ks : List Int) {Q : Value → Shared → Prop} (hA : A.handled = none) (L : s.heap.IsList l its) (I : IntsAre its.toList ks) (hk : ks.length + 1 < scanBound)
    (q : ∀ (h2 : Heap) (u m : Nat), SetR w h2 s.heap.objs.size (fun j => decide (j ∈ ks)) m → m ≤ ks.length → (∀ b o, s.heap.get? b = some o → h2.get? b = some o) → Q (.ref s.heap.objs.size) { s with heap := h2, toks := u }) :
    wpAny (model P w) A (call (.type "set") [.ref l]) Q E s := by
  have zs : its.size = ks.length := (Array.length_toList (xs := its)).symm.trans (IntsAre.length I)
  obtain ⟨c, tl, m1⟩ := F.called_set.mro
  have m2 := F.called_set.made; have m3 := F.called_set.sub
  refine wpAny_call (codeAny_of_tree ?_); show wpAny _ _ (callAny (.type "set") _) _ _ _
  refine wpAny_pure ⟨Code.quiet_builtin _ (by decide +kernel), codeAny_builtin F.entry_type_call ?_⟩; rw [Around.under_plain (weight_type_call_type "set" [.ref l] []) rfl]
  have m4 := F.called_set.notType; have m5 := F.called_set.canCreate; have m6 := F.typeCall_set_1 (.ref l)
  repeat (any_goals (first | assumption | wp_step))
  refine codeAny_mono (code_set_led1 (.ref l) (E := E) (Q₁ := fun o s1 => o = .ref s.heap.objs.size ∧ s1 = { s with heap := s.heap.push (eS w) }) ⟨rfl, rfl⟩) fun r s1 hr => ?_
  cases r with
  | error e => exact hr
  | ok fl =>
    cases fl with
    | ret o =>
      obtain ⟨rfl, rfl⟩ := hr
      have g1 : (s.heap.push (eS w)).get? s.heap.objs.size = some (eS w) := Heap.get?_push_size _ rfl
      have g2 : Shared.TypeIs { s with heap := s.heap.push (eS w) } (.ref s.heap.objs.size) "set" := ⟨_, g1, rfl⟩
      have m7 := F.called_set.init.lookup; have m8 := F.called_set.init.bind (.ref s.heap.objs.size)
      repeat (any_goals (first | assumption | wp_step))
      refine codeAny_mono (codeAny_call_builtin (R := wants (fun r s2 => r = .none ∧ ∃ h2 u m, s2 = { s with heap := h2, toks := u } ∧ SetR w h2 s.heap.objs.size (fun j => decide (j ∈ ks)) m ∧ m ≤ ks.length ∧ (∀ b o, s.heap.get? b = some o → h2.get? b = some o)) E) F.called_set.init.plain F.entry_set_init (check_set_init_1 g2 ?_)) fun r2 s2 hr2 => ?_
      · obtain ⟨ol, e0, e1, n0, e2⟩ := L
        obtain ⟨oc, od, ot, os⟩ := ol
        simp only at e1 e2; subst e1; subst e2
        have g3 : (s.heap.push (eS w)).get? l = some { cls := .type "list", dict := od, data := .seq its n0, slots := os } := Heap.get?_push_of_some _ e0
        have f1 := F.sub_list_set; have f2 := F.sub_list_frozenset
        have f3 : (Value.type "list" == Value.type "dict") = false := by decide
        have L1 : (s.heap.push (eS w)).IsList l its := ⟨_, g3, rfl, n0, rfl⟩
        unfold Builtin.«set.__init__» noKeywords Builtin.Frozenset.updateFrom; generalize hPI : pyIter = PI
        wp_walk
        subst hPI
        refine wpAny_pyIter_list L1 ?_; refine wpAny_bind (wpAny_runValue ?_)
        have lt0 : l < s.heap.objs.size := Heap.lt_size e0
        have hA3 : A.in1.in1.in1.handled = none := by simp [hA]
        have n1 : l ≠ (s.heap.push (eS w)).objs.size := by rw [Heap.size_push]; exact Nat.ne_of_lt (Nat.lt_succ_of_lt lt0)
        have n2 : s.heap.objs.size ∉ [(s.heap.push (eS w)).objs.size, l] := fun z => by
          rw [Heap.size_push] at z
          rcases List.mem_cons.mp z with e | z
          · exact absurd e (Nat.ne_of_lt (Nat.lt_succ_self _))
          · exact absurd (List.mem_singleton.mp z) (Nat.ne_of_gt lt0)
        have iv : ∀ (i : Nat) (v : Value), its[i]? = some v → ∃ k t, ks[i]? = some k ∧ v = .int k t := fun i v hv => by
          have hi : i < ks.length := zs ▸ (Array.getElem?_eq_some_iff.mp hv).1
          obtain ⟨t, e⟩ := IntsAre.int_at I i v ((Array.getElem?_toList (xs := its) (i := i)).trans hv)
          exact ⟨ks[i], t, List.getElem?_eq_getElem hi, by rw [e, List.getD_eq_getElem?_getD, List.getElem?_eq_getElem hi]; rfl⟩
        refine set_update_ints ((Walks.list hA3 _ l n1 its).toS) s.heap.objs.size n2 ks zs hk iv (its.size - 0) 0 _ (by omega) (Nat.zero_le _) ⟨⟨_, Heap.get?_push_size _ rfl, rfl, rfl⟩, (L1.push _)⟩ ?begins ?ended
        case begins => exact ⟨0, Nat.le_refl 0, setR_new_at (Heap.get?_push_of_some _ g1)⟩
        case ended =>
          intro s3 m hm hc hS
          obtain ⟨h3, g', d3, u, o3⟩ := s3
          have z1 : g' = s.gens := hm.gens
          have z2 : d3 = s.drawn := hm.drawn
          have z3 : o3 = s.os := hm.os
          subst z1; subst z2; subst z3
          show wpAny _ _ _ _ _ _
          refine wpAny_pure ?_; show wpAny _ _ (ret Value.none) _ _ _
          refine wpAny_pure ⟨rfl, h3, u, m, rfl, hS, zs ▸ hc, fun b o e => ?_⟩
          have b0 : b < s.heap.objs.size := Heap.lt_size e
          refine hm.heap b o ?_ (Heap.get?_push_of_some _ (Heap.get?_push_of_some _ e))
          intro z
          rw [Heap.size_push] at z
          rcases List.mem_cons.mp z with e1 | z
          · exact absurd e1 (Nat.ne_of_lt b0)
          · exact absurd (List.mem_singleton.mp z) (Nat.ne_of_lt (Nat.lt_succ_of_lt b0))
      · cases r2 with
        | error e => exact hr2
        | ok f2 =>
          cases f2 with
          | ret r =>
            obtain ⟨rfl, h2, u, m, rfl, x1, x2, x3⟩ := hr2
            repeat (any_goals (first | assumption | wp_step))
            exact q h2 u m x1 x2 x3
          | _ => exact hr2.elim
    | _ => exact hr.elim
end
def rSetL (K : PySem.W.Frag) (w : World) : List V → Hp → VK → Prop := fun xs H Q => ∃ (l : Addr) (ks : List Int), xs = [.ref l] ∧ SqL K H l (ks.map V.int) ∧ ks.length ≤ 1000 ∧
  ∀ (p : Addr) (m : Nat), m ≤ ks.length → H p = none → Q (.ref p) (upd H p (SetO w p (fun j => decide (j ∈ ks)) m))
theorem cr_setL {X : Cx} (hc : X.calm = true) : CallR X (.type "set") (rSetL X.K X.w) := by
  intro pins s σ H xs us Q I r h
  obtain ⟨l, ks, rfl, hs, hl, q⟩ := h
  cases r with
  | cons r rr =>
    cases rr
    cases r
    obtain ⟨its, rv, pl, hz⟩ := I.list hs
    refine made ks (I.ok.hd hc) pl.isList (by simpa using rv.ints) (by unfold scanBound; omega) fun h2 u m x1 x2 x3 => ?_
    have nf : H s.heap.objs.size = none := I.hok.fresh (Nat.le_refl _)
    exact ⟨.ref s.heap.objs.size, _, I.laid (t' := u) x3 (Nat.le_refl _) (setO_new x1), rfl, q _ m x2 nf⟩
end SLs
end
section
namespace L2
open PySem PySem.Spec PyProof.Rows
section
variable {prog : Program} {w : World} {A : Around} {E : Value → Shared → Prop} {s : Shared} {l : Addr} {its : List Value} {ns : List Int} {xs : Array (Int × Tok)} {Q : Value → Shared → Prop}
theorem iter_intTup (hl : s.heap.IsTuple l (intItems xs))
    (h : ∀ s₂ : Shared, s₂ = { s with heap := s.heap.push { cls := .type "tuple_iterator", data := .fields #[.ref l, .int 0 0] } } →
      (s₂.heap.IsTupleIter s.heap.objs.size l 0 ∧ s₂.heap.IsTuple l (intItems xs)) → (∀ b ∈ [s.heap.objs.size, l], b < s₂.heap.objs.size) → l ≠ s.heap.objs.size → Q (.ref s.heap.objs.size) s₂) :
    wpAny (model prog w) A (pyIter (.ref l)) Q E s := by
  have hlt : l < s.heap.objs.size := by obtain ⟨_, e, _⟩ := hl; exact Heap.lt_size e
  refine wpAny_pyIter_tuple hl (h _ rfl ⟨⟨_, Heap.get?_push_size _ rfl, rfl, rfl⟩, hl.at fun o e => Heap.get?_push_of_some _ e⟩ (fun b hb => ?_) (Nat.ne_of_lt hlt))
  show b < (s.heap.push _).objs.size
  rw [Heap.size_push]
  rcases List.mem_cons.mp hb with rfl | hb
  · exact Nat.lt_succ_self _
  · rcases List.mem_cons.mp hb with rfl | hb
    · exact Nat.lt_succ_of_lt hlt
    · cases hb
theorem old_keptT {h' : Heap} (hk : ∀ b o, b ∉ [s.heap.objs.size] → (s.heap.push { cls := .type "tuple_iterator", data := .fields #[.ref l, .int 0 0] }).get? b = some o → h'.get? b = some o) :
    ∀ b o, s.heap.get? b = some o → h'.get? b = some o := fun b o e => by
  refine hk b o (fun hm => ?_) (Heap.get?_push_of_some _ e)
  rcases List.mem_cons.mp hm with e1 | hm
  · exact absurd (e1 ▸ Heap.lt_size e) (Nat.lt_irrefl _)
  · cases hm
theorem max_intTup (hh : A.handled = none) (hl : s.heap.IsTuple l (intItems xs)) (hne : 0 < xs.size)
    (h : ∀ v h' tk, (intItems xs)[argBest (fun i j => decide (numAt xs i > numAt xs j)) (xs.size - 1)]? = some v → (∀ b o, s.heap.get? b = some o → h'.get? b = some o) → Q v { s with heap := h', toks := tk }) :
    wpAny (model prog w) A (call (.builtin "max") [.ref l]) Q E s := by
  refine call_max_walk (iter_intTup hl fun s₂ e st hfp hlI => ?_)
  subst e
  refine ⟨_, _, _, _, _, _, _, rfl, Walks.tuple (A := A.in1) hh _ l hlI (intItems xs), st, hfp, by simpa [intItems] using hne, CmpOf.ints_gt (numAt xs) (fun _ _ => intItems_at), fun v h' tk hP hk => ?_⟩
  exact h v h' tk (by simpa [intItems] using hP) (old_keptT hk)
theorem min_intTup (hh : A.handled = none) (hl : s.heap.IsTuple l (intItems xs)) (hne : 0 < xs.size)
    (h : ∀ v h' tk, (intItems xs)[argBest (fun i j => decide (numAt xs i < numAt xs j)) (xs.size - 1)]? = some v → (∀ b o, s.heap.get? b = some o → h'.get? b = some o) → Q v { s with heap := h', toks := tk }) :
    wpAny (model prog w) A (call (.builtin "min") [.ref l]) Q E s := by
  refine call_min_walk (iter_intTup hl fun s₂ e st hfp hlI => ?_)
  subst e
  refine ⟨_, _, _, _, _, _, _, rfl, Walks.tuple (A := A.in1) hh _ l hlI (intItems xs), st, hfp, by simpa [intItems] using hne, CmpOf.ints_lt (numAt xs) (fun _ _ => intItems_at), fun v h' tk hP hk => ?_⟩
  exact h v h' tk (by simpa [intItems] using hP) (old_keptT hk)
theorem max_rawT (hh : A.handled = none) (hl : s.heap.IsTuple l its.toArray) (hi : IntsAre its ns) (hne : 0 < ns.length)
    (h : ∀ h' tk M t', (∀ b o, s.heap.get? b = some o → h'.get? b = some o) → M ∈ ns → (∀ a, a ∈ ns → a ≤ M) → Q (.int M t') { s with heap := h', toks := tk }) : wpAny (model prog w) A (call (.builtin "max") [.ref l]) Q E s := by
  obtain ⟨xs, e⟩ := hi.allInts.items
  have hn : numsOf (intItems xs).toList = ns := by rw [← e]; exact hi.numsOf
  rw [nums_intItems] at hn
  subst hn
  rw [e] at hl
  have hsz : 0 < xs.size := by simpa using hne
  refine max_intTup hh hl hsz fun v h' tk hv hk => ?_
  obtain ⟨t, rfl⟩ := intItems_at hv
  obtain ⟨h1, h2⟩ := argBest_gt (numAt xs) (xs.size - 1)
  refine h h' tk _ t hk ?_ fun a ha => ?_
  · rw [numAt_eq]; exact PySem.getD_mem (by rw [List.length_map, Array.length_toList]; omega)
  · obtain ⟨j, hj, rfl⟩ := mem_getD ha
    rw [List.length_map, Array.length_toList] at hj
    rw [← numAt_eq]; exact h2 j (by omega)
theorem min_rawT (hh : A.handled = none) (hl : s.heap.IsTuple l its.toArray) (hi : IntsAre its ns) (hne : 0 < ns.length)
    (h : ∀ h' tk M t', (∀ b o, s.heap.get? b = some o → h'.get? b = some o) → M ∈ ns → (∀ a, a ∈ ns → M ≤ a) → Q (.int M t') { s with heap := h', toks := tk }) : wpAny (model prog w) A (call (.builtin "min") [.ref l]) Q E s := by
  obtain ⟨xs, e⟩ := hi.allInts.items
  have hn : numsOf (intItems xs).toList = ns := by rw [← e]; exact hi.numsOf
  rw [nums_intItems] at hn
  subst hn
  rw [e] at hl
  have hsz : 0 < xs.size := by simpa using hne
  refine min_intTup hh hl hsz fun v h' tk hv hk => ?_
  obtain ⟨t, rfl⟩ := intItems_at hv
  obtain ⟨h1, h2⟩ := argBest_lt (numAt xs) (xs.size - 1)
  refine h h' tk _ t hk ?_ fun a ha => ?_
  · rw [numAt_eq]; exact PySem.getD_mem (by rw [List.length_map, Array.length_toList]; omega)
  · obtain ⟨j, hj, rfl⟩ := mem_getD ha
    rw [List.length_map, Array.length_toList] at hj
    rw [← numAt_eq]; exact h2 j (by omega)
end
section
variable {X : Cx}
/-- max(t), min(t) of a tuple of ints -/
def rMaxT (K : PySem.W.Frag) : List V → Hp → VK → Prop := fun vs H Q => ∃ (a : Addr) (ns : List Int), vs = [V.ref a] ∧ SqT K H a (ns.map V.int) ∧ 0 < ns.length ∧ ∀ m, m ∈ ns → (∀ y, y ∈ ns → y ≤ m) → Q (.int m) H
def rMinT (K : PySem.W.Frag) : List V → Hp → VK → Prop := fun vs H Q => ∃ (a : Addr) (ns : List Int), vs = [V.ref a] ∧ SqT K H a (ns.map V.int) ∧ 0 < ns.length ∧ ∀ m, m ∈ ns → (∀ y, y ∈ ns → m ≤ y) → Q (.int m) H
theorem cr_maxT (hc : X.calm = true) : CallR X (.builtin "max") (rMaxT X.K) := by
  intro pins s σ H vs us Q I r h
  obtain ⟨a, ns, rfl, hs, hne, q⟩ := h
  obtain ⟨its, rv, hl, _⟩ := I.tuple hs
  rw [Vals.ref1 r]
  exact max_rawT (I.ok.hd hc) hl rv.ints hne fun h' tk m t' hk h1 h2 => ⟨.int _, H, I.kept hk, ⟨_, rfl⟩, q m h1 h2⟩
theorem cr_minT (hc : X.calm = true) : CallR X (.builtin "min") (rMinT X.K) := by
  intro pins s σ H vs us Q I r h
  obtain ⟨a, ns, rfl, hs, hne, q⟩ := h
  obtain ⟨its, rv, hl, _⟩ := I.tuple hs
  rw [Vals.ref1 r]
  exact min_rawT (I.ok.hd hc) hl rv.ints hne fun h' tk m t' hk h1 h2 => ⟨.int _, H, I.kept hk, ⟨_, rfl⟩, q m h1 h2⟩
end
end L2
end
section
namespace L2
open PySem PySem.Spec PyProof.Rows
/-- the signs of a text, each a text -/
def signs1 (x : Str) : List V := x.cps.toList.map fun c => V.str ⟨#[c]⟩
/-- list(x), x a text -/
def rListS : List V → Hp → VK → Prop := fun xs H Q => ∃ x : Str, xs = [.str x] ∧ x.cps.size ≤ sizeLine ∧ ∀ q, H q = none → Q (.ref q) (upd H q (.lst (signs1 x)))
theorem call_list_strS {X : Cx} (hc : X.calm = true) : CallR X (.type "list") rListS := by
  intro pins s σ H xs us Q I r h
  obtain ⟨x, e, hk, q⟩ := h
  subst e
  obtain ⟨u, eu, rx⟩ := vals1 r
  subst eu
  obtain ⟨t, rfl⟩ := rx
  refine PySem.call_list_str (I.ok.hd hc) x t (fun h' tk acc' c' hkeep hS hacc => ?_) hk
  refine ⟨.ref s.heap.objs.size, upd H s.heap.objs.size (.lst (signs1 x)), I.laid hkeep (Nat.le_refl _) (show ObjOk X.prog X.w _ _ _ (.lst (signs1 x)) from ⟨?_, acc'.toList, c', ?_, ?_⟩), rfl, q _ (I.hok.fresh (Nat.le_refl _))⟩
  · unfold signs1
    rw [List.length_map, Array.length_toList]
    exact hk
  · have el : acc'.toList.length = acc'.size := by simp
    refine vals_of_at (by unfold signs1; rw [List.length_map, el, hacc.1, Array.length_toList]) fun j y w h1 h2 => ?_
    have h3 := hacc.2 j w (by rw [← Array.getElem?_toList]; exact h2)
    obtain ⟨c, tt, h4, h5⟩ := h3
    unfold signs1 at h1
    rw [List.getElem?_map, Array.getElem?_toList, h4] at h1
    cases h1
    exact ⟨tt, h5⟩
  · rw [Array.toArray_toList]
    exact hS
end L2
end
section
namespace K19
open PySem L2 No RZ
def top (i : Nat) : Stmt := PySem.Challenge.pw_meetstores_k19_whole_scripts_as_text.main.body.getD i (.Pass ⟨0, 0, 0, 0⟩)
/-- a def of the top, by its name -/
structure Dfn (K : PySem.W.Frag) (mg : Str → Option Value) (x : Str) (st : Stmt) (ps : List Str) (f : Addr) (fd : FuncData) : Prop where
  F : Fun K x x st f fd
  g : mg x = some (.ref f)
  b : Binds K fd ps []
/-- the built-in names that the top leaves alone -/
structure Bi (mg : Str → Option Value) : Prop where
  len : mg "len" = none
  int : mg "int" = none
  range : mg "range" = none
  tuple : mg "tuple" = none
  list : mg "list" = none
  isinstance : mg "isinstance" = none
  zip : mg "zip" = none
  type : mg "type" = none
  str : mg "str" = none
  bool : mg "bool" = none
  all : mg "all" = none
  min : mg "min" = none
  max : mg "max" = none
/-! ### the draws -/
def Keep (r : Addr) (H H' : Hp) : Prop := ∀ b o, b ≠ r → H b = some o → H' b = some o
theorem yes {σ : St} {H : Hp} {te : TE} {k : V → Hp → Prop} {N : Hp → Prop} (h : te σ H k) : tYes σ H fun b H3 => if b = true then te σ H3 k else N H3 := by
  show if true = true then te σ H k else N H
  rw [if_pos rfl]
  exact h
theorem Keep.refl (r : Addr) (H : Hp) : Keep r H H := fun _ _ _ h => h
theorem Keep.trans {r : Addr} {H H1 H2 : Hp} (a : Keep r H H1) (b : Keep r H1 H2) : Keep r H H2 := fun c o n h => b c o n (a c o n h)
theorem Keep.of {r : Addr} {H H1 : Hp} (a : Same H H1) : Keep r H H1 := fun c o _ h => a c o h
theorem Keep.upd {r : Addr} {H : Hp} {o : HO} : Keep r H (upd H r o) := fun b u n h => by rw [upd_ne n]; exact h
theorem Same.new {H : Hp} {p : Addr} {o : HO} (h : H p = none) : Same H (upd H p o) := fun b x e => by
  rw [upd_ne (ne_of_none e h)]
  exact e
theorem Keep.new {r : Addr} {H : Hp} {p : Addr} {o : HO} (h : H p = none) : Keep r H (L2.upd H p o) := Keep.of (Same.new h)
structure RowI (K : PySem.W.Frag) (H : Hp) (r sc : Addr) (ns : List Int) : Prop where
  row : ∃ n x z : Int, H r = some (.lst [.ref sc, .int n, .int x, .int z]) ∧ 0 ≤ n ∧ 0 ≤ x ∧ x < 2147483647
  stay : ∀ H', Keep r H H' → SqL K H' sc (ns.map V.int)
theorem RowI.scr {K : PySem.W.Frag} {H : Hp} {r sc : Addr} {ns : List Int} (R : RowI K H r sc ns) : SqL K H sc (ns.map V.int) := R.stay H (Keep.refl r H)
theorem Keep.seq {K : PySem.W.Frag} {r : Addr} {H H' : Hp} {a : Addr} {xs : List V} (e : Keep r H H') (n : a ≠ r) (h : SqL K H a xs) : SqL K H' a xs := by
  rcases h with (h | ⟨o, h⟩) | h
  · exact .inl (.inl (e _ _ n h))
  · exact .inl (.inr ⟨o, e _ _ n h⟩)
  · exact .inr h
theorem Keep.seqT {K : PySem.W.Frag} {r : Addr} {H H' : Hp} {a : Addr} {xs : List V} (e : Keep r H H') (n : a ≠ r) (h : SqT K H a xs) : SqT K H' a xs := by
  rcases h with (h | ⟨o, h⟩) | h
  · exact .inl (.inl (e _ _ n h))
  · exact .inl (.inr ⟨o, e _ _ n h⟩)
  · exact .inr h
theorem Same.seqT {K : PySem.W.Frag} {H H' : Hp} {a : Addr} {xs : List V} (e : Same H H') (h : SqT K H a xs) : SqT K H' a xs := by
  rcases h with (h | ⟨o, h⟩) | h
  · exact .inl (.inl (e _ _ h))
  · exact .inl (.inr ⟨o, e _ _ h⟩)
  · exact .inr h
theorem RowI.same {K : PySem.W.Frag} {H H' : Hp} {r sc : Addr} {ns : List Int} (R : RowI K H r sc ns) (e : Same H H') : RowI K H' r sc ns := by
  obtain ⟨⟨n, x, z, h, b⟩, s⟩ := R
  exact ⟨⟨n, x, z, e _ _ h, b⟩, fun H'' k => s H'' ((Keep.of e).trans k)⟩
theorem RowI.new {K : PySem.W.Frag} {H : Hp} {r sc p : Addr} {ns : List Int} (R : RowI K H r sc ns) (hp : H p = none) : p ≠ r := fun e => by
  obtain ⟨⟨_, _, _, h, _⟩, _⟩ := R
  rw [e, h] at hp
  cases hp
theorem Keep.free {r p : Addr} {H H' : Hp} (k : Keep r H H') (h : H' p = none) (n : p ≠ r) : H p = none := by
  cases e : H p with
  | none => rfl
  | some o => rw [k _ _ n e] at h; cases h
/-- another object than the row is written: the script is as it was ahead of it -/
theorem RowI.ups {K : PySem.W.Frag} {H H3 : Hp} {r sc p : Addr} {ns : List Int} {o : HO} (R : RowI K H3 r sc ns) (R0 : RowI K H r sc ns) (np : p ≠ r) (k : Keep r H (upd H3 p o)) : RowI K (upd H3 p o) r sc ns := by
  obtain ⟨⟨n, x, z, h, b⟩, s⟩ := R
  exact ⟨⟨n, x, z, by rw [upd_ne np.symm]; exact h, b⟩, fun H'' k' => R0.stay H'' (k.trans k')⟩
theorem RowI.set {K : PySem.W.Frag} {H : Hp} {r sc : Addr} {ns : List Int} (R : RowI K H r sc ns) {n x z : Int} (hn : 0 ≤ n) (h0 : 0 ≤ x) (h1 : x < 2147483647) : RowI K (upd H r (.lst [.ref sc, .int n, .int x, .int z])) r sc ns :=
  ⟨⟨n, x, z, upd_same, hn, h0, h1⟩, fun H'' k => R.stay H'' (Keep.upd.trans k)⟩
theorem RowI.start {K : PySem.W.Frag} {H : Hp} {r sc : Addr} {ns : List Int} {x : Int} (hS : SqL K H sc (ns.map V.int)) (hr : H r = none) (h0 : 0 ≤ x) (h1 : x < 2147483647) : RowI K (upd H r (.lst [.ref sc, .int 0, .int x, .int 0])) r sc ns := by
  refine ⟨⟨0, x, 0, upd_same, Int.le_refl 0, h0, h1⟩, fun H' k => ?_⟩
  rcases hS with (h | ⟨o, h⟩) | h
  · have n : sc ≠ r := ne_of_none h hr
    exact .inl (.inl (k _ _ n (by rw [upd_ne n]; exact h)))
  · have n : sc ≠ r := ne_of_none h hr
    exact .inl (.inr ⟨o, k _ _ n (by rw [upd_ne n]; exact h)⟩)
  · exact .inr h
/-- bytes as values -/
def bV (l : List Nat) : List V := l.map fun (n : Nat) => V.int (n : Int)
theorem bV_len (l : List Nat) : (bV l).length = l.length := List.length_map _
theorem bV_app (l : List Nat) (u : Nat) : bV (l ++ [u]) = bV l ++ [.int (u : Int)] := by
  unfold bV
  rw [List.map_append]
  rfl
theorem bV_get {l : List Nat} {i : Nat} {x : V} (h : (bV l)[i]? = some x) : ∃ n, l[i]? = some n ∧ x = .int (n : Int) := by
  unfold bV at h
  rw [List.getElem?_map] at h
  cases e : l[i]? with
  | none => rw [e] at h; cases h
  | some n => rw [e] at h; exact ⟨n, rfl, (Option.some.inj h).symm⟩
theorem bV_at {l : List Nat} {i n : Nat} (h : l[i]? = some n) : (bV l)[i]? = some (.int (n : Int)) := by
  unfold bV
  rw [List.getElem?_map, h]
  rfl
def Byt (l : List Nat) : Prop := ∀ o, o ∈ l → o < 256
theorem bV_append (l m : List Nat) : bV l ++ bV m = bV (l ++ m) := by unfold bV; rw [List.map_append]
abbrev s_law_taken : Stmt := top 48
abbrev n_law_taken : List Str := ["row", "many", "found", "cell"]
abbrev p_law_taken : List Str := ["row", "many"]
theorem sc_law_taken : FnScope n_law_taken p_law_taken (defScope s_law_taken) := ⟨rfl, rfl, rfl, by decide +kernel, rfl, by decide +kernel, by decide +kernel⟩
def spTaken (K : PySem.W.Frag) : Sp := fun vs H Q _ => ∃ (r sc : Addr) (ns : List Int) (many : Int), vs = [.ref r, .int many] ∧ RowI K H r sc ns ∧ 0 < many ∧ many < 9223372036854775808 ∧
  ∀ (v : Int) (H' : Hp), 0 ≤ v → v < many → RowI K H' r sc ns → Keep r H H' → Q (.int v) H'
section
variable {P : Program} {w : World} {K : PySem.W.Frag} {mg : Str → Option Value} {base : Heap}
theorem ok_taken {f : Addr} {fd : FuncData} (D : Dfn K mg "_law_taken" s_law_taken p_law_taken f fd) (B : Bi mg) : FnOk P w K mg base CX0 1 f fd p_law_taken (spTaken K) := by
  refine D.F.ok sc_law_taken (fun vs H Q E h => ?_) (fun cdv A outer s H vs Q E hr h => ?_)
  · obtain ⟨r, sc, ns, many, rfl, _⟩ := h
    rfl
  · obtain ⟨r, sc, ns, many, rfl, R, m0, m1, q⟩ := h
    have nd := sc_law_taken.nd
    refine ⟨_, pss_cons (ps_if (pt_cmpR op_gt (pe_ix ix_list (pv 0) pe_int (fun _ _ => rfl)) pe_int (nomark _))
        (pss_cons (ps_set (i := 2) nd rfl (.inl rfl) (pe_op op_modN (pe_callTy call_int1 (by rfl) B.int (by decide +kernel) (pa_cons (pe_ix ix_list (pv 0) pe_int (fun _ _ => rfl)) pa_nil)) (pv 1)))
        (pss_cons (ps_asg (pe_op op_fdivW (pe_ix ix_list (pv 0) pe_int (fun _ _ => rfl)) (pv 1)) (pg_sub (pv 0) pe_int set_list))
        (pss_one (ps_ret (pv 2))))) pss_nil)
      (pss_cons (ps_asg (pe_op op_add (pe_ix ix_list (pv 0) pe_int (fun _ _ => rfl)) pe_int) (pg_sub (pv 0) pe_int set_list))
      (pss_cons (ps_if (pt_cmpR op_gt (pe_ix ix_list (pv 0) pe_int (fun _ _ => rfl)) (pe_callB call_len_seq (by rfl) B.len PySem.boot_len (pa_cons (pe_ix ix_list (pv 0) pe_int (fun _ _ => rfl)) pa_nil)) (nomark _))
        (pss_cons (ps_asg (pe_op op_modN (pe_callTy call_int1 (by rfl) B.int (by decide +kernel) (pa_cons (pe_op op_add (pe_op op_mul (pe_ix ix_list (pv 0) pe_int (fun _ _ => rfl)) pe_int) pe_int) pa_nil)) pe_int) (pg_sub (pv 0) pe_int set_list))
        (pss_one (ps_ret (pe_op op_modN (pe_callTy call_int1 (by rfl) B.int (by decide +kernel) (pa_cons (pe_op op_fdivN (pe_ix ix_list (pv 0) pe_int (fun _ _ => rfl)) pe_int) pa_nil)) (pv 1))))) pss_nil)
      (pss_cons (ps_set (i := 3) nd rfl (.inl rfl) (pe_ix ix_list (pe_ix ix_list (pv 0) pe_int (fun _ _ => rfl)) (pe_op op_sub (pe_ix ix_list (pv 0) pe_int (fun _ _ => rfl)) pe_int) (fun _ _ => rfl)))
      (pss_cons (ps_asg (pe_op op_modN (pe_callTy call_int1 (by rfl) B.int (by decide +kernel) (pa_cons (pe_op op_add (pe_op op_add (pe_op op_mul (pe_ix ix_list (pv 0) pe_int (fun _ _ => rfl)) pe_int) (pv 3)) pe_int) pa_nil)) pe_int) (pg_sub (pv 0) pe_int set_list))
      (pss_cons (ps_if (pt_cmpR op_ge (pv 3) (pe_op op_pow pe_int pe_int) (nomark _))
        (pss_one (ps_asg (pe_op op_fdivW (pv 3) (pv 1)) (pg_sub (pv 0) pe_int set_list))) pss_nil)
      (pss_one (ps_ret (pe_op op_modN (pe_callTy call_int1 (by rfl) B.int (by decide +kernel) (pa_cons (pv 3) pa_nil)) (pv 1))))))))), ?_⟩
    obtain ⟨⟨n, x, z, hrow, hn, hx0, hx1⟩, hst⟩ := id R
    have g0 : ∀ (a b c d : V), atI [a, b, c, d] (0 : Int) = some a := fun _ _ _ _ => rfl
    have g1 : ∀ (a b c d : V), atI [a, b, c, d] (1 : Int) = some b := fun _ _ _ _ => rfl
    have g2 : ∀ (a b c d : V), atI [a, b, c, d] (2 : Int) = some c := fun _ _ _ _ => rfl
    have g3 : ∀ (a b c d : V), atI [a, b, c, d] (3 : Int) = some d := fun _ _ _ _ => rfl
    -- if row[3] > 0
    refine ⟨_, rfl, r, _, _, _, rfl, rfl, SqL.of hrow, g3 _ _ _ _, _, _, rfl, rfl, _, rfl, ?_⟩
    by_cases hz : 0 < z
    · rw [decide_eq_true hz]
      refine iteT ?_
      refine ⟨_, rfl, r, _, _, _, rfl, rfl, SqL.of hrow, g3 _ _ _ _, .inl ⟨_, rfl, _, rfl, _, _, rfl, rfl, (by omega), ?_⟩⟩
      refine ⟨_, rfl, r, _, _, _, rfl, rfl, SqL.of hrow, g3 _ _ _ _, _, rfl, _, _, rfl, rfl, wide_div (b := 63) m0 (by omega) (by decide) (by decide), ?_⟩
      refine ⟨_, rfl, r, _, _, 3, rfl, rfl, hrow, rfl, ?_⟩
      refine ⟨_, rfl, ?_⟩
      refine q _ _ ?_ ?_ (R.set hn hx0 hx1) Keep.upd
      · exact Int.fmod_nonneg_of_pos _ m0
      · exact Int.fmod_lt_of_pos _ m0
    · rw [decide_eq_false hz]
      refine iteF ?_
      -- row[1] = row[1] + 1
      refine ⟨_, rfl, r, _, _, _, rfl, rfl, SqL.of hrow, g1 _ _ _ _, _, _, rfl, rfl, _, rfl, r, _, _, 1, rfl, rfl, hrow, rfl, ?_⟩
      have R1 : RowI K (upd H r (.lst [.ref sc, .int (n + 1), .int x, .int z])) r sc ns := R.set (by omega) hx0 hx1
      have k1 : Keep r H (upd H r (.lst [.ref sc, .int (n + 1), .int x, .int z])) := Keep.upd
      show tSeq _ _ _ _ (upd H r (.lst [.ref sc, .int (n + 1), .int x, .int z]))
      have h1 : upd H r (.lst [.ref sc, .int (n + 1), .int x, .int z]) r = some (.lst [.ref sc, .int (n + 1), .int x, .int z]) := upd_same
      generalize upd H r (.lst [.ref sc, .int (n + 1), .int x, .int z]) = H1 at R1 k1 h1
      -- if row[1] > len(row[0])
      refine ⟨_, rfl, r, _, _, _, rfl, rfl, SqL.of h1, g1 _ _ _ _, _, rfl, r, _, _, _, rfl, rfl, SqL.of h1, g0 _ _ _ _, sc, _, rfl, .inl R1.scr, _, _, rfl, rfl, _, rfl, ?_⟩
      rw [List.length_map]
      by_cases hl : (ns.length : Int) < n + 1
      · rw [decide_eq_true hl]
        refine iteT ?_
        refine ⟨_, rfl, r, _, _, _, rfl, rfl, SqL.of h1, g2 _ _ _ _, _, _, rfl, rfl, .inl ⟨by omega, by omega⟩, _, _, rfl, rfl, .inl ⟨_, rfl, _, _, rfl, rfl, (by show (2147483647 : Int) ≠ 0; decide), ?_⟩⟩
        refine ⟨_, rfl, r, _, _, 2, rfl, rfl, h1, rfl, ?_⟩
        have R2 : RowI K (upd H1 r (.lst [.ref sc, .int (n + 1), .int ((x * 48271 + 11).fmod 2147483647), .int z])) r sc ns := R1.set (by omega) (Int.fmod_nonneg_of_pos _ (by decide)) (Int.fmod_lt_of_pos _ (by decide))
        have h2 : upd H1 r (.lst [.ref sc, .int (n + 1), .int ((x * 48271 + 11).fmod 2147483647), .int z]) r = some _ := upd_same
        refine ⟨_, rfl, r, _, _, _, rfl, rfl, SqL.of h2, g2 _ _ _ _, _, _, rfl, rfl, ⟨by decide, by decide⟩, .inl ⟨_, rfl, _, rfl, _, _, rfl, rfl, by omega, ?_⟩⟩
        exact q _ _ (Int.fmod_nonneg_of_pos _ m0) (Int.fmod_lt_of_pos _ m0) R2 (k1.trans Keep.upd)
      · rw [decide_eq_false hl]
        refine iteF ?_
        have hlt : n.toNat < ns.length := by omega
        -- cell = row[0][row[1] - 1]
        refine ⟨_, rfl, r, _, _, _, rfl, rfl, SqL.of h1, g0 _ _ _ _, _, rfl, r, _, _, _, rfl, rfl, SqL.of h1, g1 _ _ _ _, _, _, rfl, rfl, sc, _, _, _, rfl, rfl, R1.scr, at_of (j := n.toNat) (v := V.int ns[n.toNat]) (by omega) (by rw [List.getElem?_map, List.getElem?_eq_getElem hlt]; rfl), ?_⟩
        generalize ns[n.toNat] = c
        refine ⟨_, rfl, r, _, _, _, rfl, rfl, SqL.of h1, g2 _ _ _ _, _, _, rfl, rfl, .inl ⟨by omega, by omega⟩, _, rfl, _, _, rfl, rfl, _, _, rfl, rfl, .inl ⟨_, rfl, _, _, rfl, rfl, (by show (2147483647 : Int) ≠ 0; decide), ?_⟩⟩
        refine ⟨_, rfl, r, _, _, 2, rfl, rfl, h1, rfl, ?_⟩
        have R2 : RowI K (upd H1 r (.lst [.ref sc, .int (n + 1), .int ((x * 48271 + c + 11).fmod 2147483647), .int z])) r sc ns := R1.set (by omega) (Int.fmod_nonneg_of_pos _ (by decide)) (Int.fmod_lt_of_pos _ (by decide))
        have h2 : upd H1 r (.lst [.ref sc, .int (n + 1), .int ((x * 48271 + c + 11).fmod 2147483647), .int z]) r = some _ := upd_same
        have k2 : Keep r H (upd H1 r (.lst [.ref sc, .int (n + 1), .int ((x * 48271 + c + 11).fmod 2147483647), .int z])) := k1.trans Keep.upd
        refine ⟨_, rfl, _, _, rfl, rfl, ⟨by decide, by decide, by decide⟩, _, _, rfl, rfl, _, rfl, ?_⟩
        by_cases hc : (10 : Int) ^ (18 : Int).toNat ≤ c
        · rw [decide_eq_true hc]
          refine iteT ?_
          refine ⟨_, rfl, _, rfl, _, _, rfl, rfl, wide_div (b := 63) m0 (by omega) (by decide) (by decide), _, rfl, r, _, _, 3, rfl, rfl, h2, rfl, ?_⟩
          refine ⟨_, rfl, .inl ⟨_, rfl, _, rfl, _, _, rfl, rfl, by omega, ?_⟩⟩
          exact q _ _ (Int.fmod_nonneg_of_pos _ m0) (Int.fmod_lt_of_pos _ m0) (R2.set (by omega) (Int.fmod_nonneg_of_pos _ (by decide)) (Int.fmod_lt_of_pos _ (by decide))) (k2.trans Keep.upd)
        · rw [decide_eq_false hc]
          refine iteF ?_
          refine ⟨_, rfl, .inl ⟨_, rfl, _, rfl, _, _, rfl, rfl, by omega, ?_⟩⟩
          exact q _ _ (Int.fmod_nonneg_of_pos _ m0) (Int.fmod_lt_of_pos _ m0) R2 k2
end
section
variable {P : Program} {w : World} {K : PySem.W.Frag} {mg : Str → Option Value} {base : Heap}
abbrev s_law_pick : Stmt := top 50
abbrev n_law_pick : List Str := ["row", "things"]
abbrev p_law_pick : List Str := ["row", "things"]
theorem sc_law_pick : FnScope n_law_pick p_law_pick (defScope s_law_pick) := ⟨rfl, rfl, rfl, by decide +kernel, rfl, by decide +kernel, by decide +kernel⟩
def spPick (K : PySem.W.Frag) : Sp := fun vs H Q _ => ∃ (r sc : Addr) (ns : List Int) (a : Addr) (xs : List V), vs = [.ref r, .ref a] ∧ RowI K H r sc ns ∧ SqL K H a xs ∧ a ≠ r ∧ 0 < xs.length ∧ xs.length < 1073741824 ∧
  ∀ (v : V) (H' : Hp), v ∈ xs → RowI K H' r sc ns → Keep r H H' → Q v H'
theorem ok_pick {f fT : Addr} {fd fdT : FuncData} (D : Dfn K mg "_law_pick" s_law_pick p_law_pick f fd) (B : Bi mg) (DT : Dfn K mg "_law_taken" s_law_taken p_law_taken fT fdT) : FnOk P w K mg base CX0 2 f fd p_law_pick (spPick K) := by
  have GT : FnOk P w K mg base CX0 1 fT fdT p_law_taken (spTaken K) := ok_taken DT B
  refine D.F.ok sc_law_pick (fun vs H Q E h => ?_) (fun cdv A outer s H vs Q E hr h => ?_)
  · obtain ⟨r, sc, ns, a, xs, rfl, _⟩ := h
    rfl
  · obtain ⟨r, sc, ns, a, xs, rfl, R, hs, hne, hl0, hl1, q⟩ := h
    refine ⟨_, pss_one (ps_ret (pe_ix ix_list (pv 1) (pe_call GT hr (by rfl) DT.g DT.F.kp DT.b .nil pass0 (pa_cons (pv 0) (pa_cons (pe_callB call_len_seq (by rfl) B.len PySem.boot_len (pa_cons (pv 1) pa_nil)) pa_nil))) (fun _ _ => rfl))), ?_⟩
    refine ⟨_, rfl, _, rfl, _, rfl, a, xs, rfl, .inl hs, r, sc, ns, _, rfl, R, by omega, by omega, fun v H' v0 v1 R' k => ?_⟩
    have hlt : v.toNat < xs.length := by omega
    refine ⟨a, xs, v, xs[v.toNat], rfl, rfl, k.seq hne hs, at_of (j := v.toNat) (by omega) (List.getElem?_eq_getElem hlt), ?_⟩
    exact q _ _ (List.getElem_mem hlt) R' k
end
/-! ### bits -/
theorem xN (a b : Nat) : Builtin.bitXor (a : Int) (b : Int) = ((a ^^^ b : Nat) : Int) := by
  rw [Bits.bitXor_pp (by omega) (by omega), Int.toNat_natCast, Int.toNat_natCast]
theorem aN (a b : Nat) : Builtin.bitAnd (a : Int) (b : Int) = ((a &&& b : Nat) : Int) := by
  rw [PyProof.Rows.bitAnd_pp (by omega) (by omega), Int.toNat_natCast, Int.toNat_natCast]
theorem oN (a b : Nat) : Builtin.bitOr (a : Int) (b : Int) = ((a ||| b : Nat) : Int) := by
  rw [Bits.bitOr_pp (by omega) (by omega), Int.toNat_natCast, Int.toNat_natCast]
theorem shlN (a j : Nat) : (a : Int) * 2 ^ (j : Int).toNat = ((a <<< j : Nat) : Int) := by
  rw [Int.toNat_natCast, Nat.shiftLeft_eq]
  simp
theorem shrN (a j : Nat) : (a : Int) / 2 ^ (j : Int).toNat = ((a >>> j : Nat) : Int) := by
  rw [Int.toNat_natCast, Nat.shiftRight_eq_div_pow]
  simp
theorem nI {a : Nat} {i : Int} (h : i = (a : Int)) : V.int i = V.int (a : Int) := by rw [h]
theorem bit_test (b i : Nat) : V.bl (decide (V.int (Builtin.bitAnd ((b : Int) / 2 ^ (i : Int).toNat) 1) = V.int 1)) = V.bl (decide ((b >>> i) &&& 1 = 1)) := by
  have e : Builtin.bitAnd ((b : Int) / 2 ^ (i : Int).toNat) 1 = (((b >>> i) &&& 1 : Nat) : Int) := by
    rw [shrN]
    exact aN _ 1
  rw [e]
  congr 1
  rw [decide_eq_decide]
  constructor
  · intro h
    injection h with h
    omega
  · intro h
    rw [h]
    rfl
theorem take_more {α : Type} : ∀ {l : List α} {i : Nat} {x : α}, l[i]? = some x → l.take (i + 1) = l.take i ++ [x]
  | [], i, x, h => by simp at h
  | a :: l, 0, x, h => by
    have e : a = x := Option.some.inj h
    subst e
    rfl
  | a :: l, i + 1, x, h => by
    have ih := take_more (l := l) (i := i) (x := x) h
    show a :: l.take (i + 1) = a :: l.take i ++ [x]
    rw [ih]
    rfl
theorem foldl_more {α β : Type} {f : β → α → β} {b : β} {l : List α} {i : Nat} {x : α} (h : l[i]? = some x) : (l.take (i + 1)).foldl f b = f ((l.take i).foldl f b) x := by
  rw [take_more h, List.foldl_append]
  rfl
theorem take_all {α : Type} (l : List α) : l.take l.length = l := List.take_length
theorem int_eq0 (a : Nat) : V.bl (decide (V.int (a : Int) = V.int 0)) = V.bl (decide (a = 0)) := by
  congr 1
  rw [decide_eq_decide]
  constructor
  · intro h
    injection h with h
    omega
  · intro h
    rw [h]
    rfl
theorem int_eqN (a b : Nat) : V.bl (decide (V.int (a : Int) = V.int (b : Int))) = V.bl (decide (a = b)) := by
  congr 1
  rw [decide_eq_decide]
  constructor
  · intro h
    injection h with h
    omega
  · intro h
    rw [h]
theorem int_neN (a b : Nat) : V.bl (!decide (V.int (a : Int) = V.int (b : Int))) = V.bl (decide (a ≠ b)) := by
  have := int_eqN a b
  injection this with h
  rw [h]
  by_cases e : a = b <;> simp [e]
/-! ### data: alike -/
/-- plain data of at most such a depth -/
def Pl : Nat → PyData → Prop
  | _, .none => True
  | _, .bool _ => True
  | _, .int _ => True
  | _, .str x => PyData.canLay0 (.str x) = true
  | n + 1, .list xs => xs.length ≤ 100000 ∧ ∀ x, x ∈ xs → Pl n x
  | n + 1, .tuple xs => xs.length ≤ 100000 ∧ ∀ x, x ∈ xs → Pl n x
  | 0, .list _ => False
  | 0, .tuple _ => False
  | _, .dict _ => False
theorem Pl.lay : ∀ (n : Nat) (d : PyData), Pl n d → PyData.canLay0 d = true ∧ PyData.depth d ≤ n
  | n, .none, _ => ⟨by simp only [PyData.canLay0], by simp only [PyData.depth]; omega⟩
  | n, .bool _, _ => ⟨by simp only [PyData.canLay0], by simp only [PyData.depth]; omega⟩
  | n, .int _, _ => ⟨by simp only [PyData.canLay0], by simp only [PyData.depth]; omega⟩
  | n, .str x, h => ⟨by cases n <;> exact h, by simp only [PyData.depth]; omega⟩
  | n + 1, .list xs, h => by
    obtain ⟨_, h⟩ := h
    have : ∀ ys : List PyData, (∀ y, y ∈ ys → Pl n y) → PyData.canLayAll0 ys = true ∧ PyData.depthAll ys ≤ n := by
      intro ys
      induction ys with
      | nil => intro _; exact ⟨by simp only [PyData.canLayAll0], by simp only [PyData.depthAll]; omega⟩
      | cons y ys ih =>
        intro hy
        obtain ⟨a, b⟩ := Pl.lay n y (hy y List.mem_cons_self)
        obtain ⟨c, e⟩ := ih fun z hz => hy z (List.mem_cons_of_mem _ hz)
        refine ⟨by simp only [PyData.canLayAll0, a, c, Bool.and_self], ?_⟩
        simp only [PyData.depthAll]
        omega
    obtain ⟨a, b⟩ := this xs h
    refine ⟨by simp only [PyData.canLay0, a], ?_⟩
    simp only [PyData.depth]
    omega
  | n + 1, .tuple xs, h => by
    obtain ⟨_, h⟩ := h
    have : ∀ ys : List PyData, (∀ y, y ∈ ys → Pl n y) → PyData.canLayAll0 ys = true ∧ PyData.depthAll ys ≤ n := by
      intro ys
      induction ys with
      | nil => intro _; exact ⟨by simp only [PyData.canLayAll0], by simp only [PyData.depthAll]; omega⟩
      | cons y ys ih =>
        intro hy
        obtain ⟨a, b⟩ := Pl.lay n y (hy y List.mem_cons_self)
        obtain ⟨c, e⟩ := ih fun z hz => hy z (List.mem_cons_of_mem _ hz)
        refine ⟨by simp only [PyData.canLayAll0, a, c, Bool.and_self], ?_⟩
        simp only [PyData.depthAll]
        omega
    obtain ⟨a, b⟩ := this xs h
    refine ⟨by simp only [PyData.canLay0, a], ?_⟩
    simp only [PyData.depth]
    omega
  | 0, .list _, h => nomatch h
  | 0, .tuple _, h => nomatch h
  | 0, .dict _, h => nomatch h
  | _ + 1, .dict _, h => nomatch h
theorem Pl.shaped {n : Nat} {d : PyData} (h : Pl n d) (hn : n ≤ 64) : SeqAt.shaped d = true := by
  obtain ⟨a, b⟩ := Pl.lay n d h
  unfold SeqAt.shaped
  rw [a, decide_eq_true (Nat.le_trans b hn)]
  rfl
theorem Pl.succ : ∀ (n : Nat) (d : PyData), Pl n d → Pl (n + 1) d
  | n, .none, _ => True.intro
  | n, .bool _, _ => True.intro
  | n, .int _, _ => True.intro
  | n, .str x, h => by cases n <;> exact h
  | n + 1, .list xs, h => ⟨h.1, fun x hx => Pl.succ n x (h.2 x hx)⟩
  | n + 1, .tuple xs, h => ⟨h.1, fun x hx => Pl.succ n x (h.2 x hx)⟩
  | 0, .list _, h => nomatch h
  | 0, .tuple _, h => nomatch h
  | 0, .dict _, h => nomatch h
  | _ + 1, .dict _, h => nomatch h
mutual
theorem Dp.same {K : PySem.W.Frag} {H H' : Hp} (s : Same H H') : ∀ (d : PyData) (x : V), Dp K H x d → Dp K H' x d
  | .none, _, h => by cases h; exact .non
  | .bool _, _, h => by cases h; exact .bl _
  | .int _, _, h => by cases h; exact .int _
  | .str _, _, h => by cases h; exact .str _
  | .list ds, _, h => by
    cases h with
    | lst hs ha => exact .lst (s.seq hs) (DpAll.same s ds _ ha)
  | .tuple ds, _, h => by
    cases h with
    | tup hs ha => exact .tup (Same.seqT s hs) (DpAll.same s ds _ ha)
  | .dict _, _, h => by cases h
theorem DpAll.same {K : PySem.W.Frag} {H H' : Hp} (s : Same H H') : ∀ (ds : List PyData) (xs : List V), DpAll K H xs ds → DpAll K H' xs ds
  | [], _, h => by cases h; exact .nil
  | d :: ds, _, h => by
    cases h with
    | cons h1 h2 => exact .cons (Dp.same s d _ h1) (DpAll.same s ds _ h2)
end
theorem DpAll.len {K : PySem.W.Frag} {H : Hp} : ∀ {ds : List PyData} {xs : List V}, DpAll K H xs ds → xs.length = ds.length
  | [], _, h => by cases h; rfl
  | d :: ds, _, h => by
    cases h with
    | cons h1 h2 => rw [List.length_cons, List.length_cons, DpAll.len h2]
theorem DpAll.get {K : PySem.W.Frag} {H : Hp} : ∀ {ds : List PyData} {xs : List V} {i : Nat}, DpAll K H xs ds → (h : i < ds.length) → ∃ x, xs[i]? = some x ∧ Dp K H x ds[i]
  | [], _, i, _, h => by simp at h
  | d :: ds, _, 0, h, _ => by
    cases h with
    | cons h1 h2 => exact ⟨_, rfl, h1⟩
  | d :: ds, _, i + 1, h, hi => by
    cases h with
    | cons h1 h2 =>
      obtain ⟨x, e, q⟩ := DpAll.get (i := i) h2 (by simpa using hi)
      exact ⟨x, by simpa using e, by simpa using q⟩
def isLst : PyData → Bool | .list _ => true | _ => false
def isTup : PyData → Bool | .tuple _ => true | _ => false
def isSt : PyData → Bool | .str _ => true | _ => false
def isBo : PyData → Bool | .bool _ => true | _ => false
def isIn : PyData → Bool | .int _ => true | .bool _ => true | _ => false
def isNo : PyData → Bool | .none => true | _ => false
def its : PyData → List PyData | .list xs => xs | .tuple xs => xs | _ => []
def kindOf : PyData → String
  | .none => "NoneType" | .bool _ => "bool" | .int _ => "int" | .str _ => "str" | .list _ => "list" | .tuple _ => "tuple" | .dict _ => "dict"
theorem SqL.ty {K : PySem.W.Frag} {H : Hp} {a : Addr} {xs : List V} (h : SqL K H a xs) : TyX K H (.ref a) (.type "list") := by
  rcases h with (h | ⟨o, h⟩) | ⟨o, its, n, h, c, _⟩
  · exact .base (.lst h)
  · exact .base (.frz h)
  · exact .kList h c
theorem SqT.ty {K : PySem.W.Frag} {H : Hp} {a : Addr} {xs : List V} (h : SqT K H a xs) : TyX K H (.ref a) (.type "tuple") := by
  rcases h with (h | ⟨o, h⟩) | ⟨o, its, n, h, c, _⟩
  · exact .base (.tup h)
  · exact .fTuple h
  · exact .kTuple h c
theorem Dp.ty {K : PySem.W.Frag} {H : Hp} {x : V} {d : PyData} (h : Dp K H x d) : TyX K H x (.type (kindOf d)) := by
  cases h with
  | non => exact .base .non
  | bl b => exact .base (.bl b)
  | int i => exact .base (.int i)
  | str x => exact .base (.str x)
  | lst hs _ => exact SqL.ty hs
  | tup hs _ => exact SqT.ty hs
theorem Dp.nod {K : PySem.W.Frag} {H : Hp} {x : V} {d : PyData} (h : Dp K H x d) : ∀ kv, d ≠ .dict kv := by
  intro kv e
  subst e
  cases h
section
variable {K : PySem.W.Frag} {d : PyData} (nd : ∀ kv, d ≠ .dict kv)
include nd
theorem kit_lst : PySem.W.kitOne K (.type (kindOf d)) (.type "list") = some (isLst d) := by
  cases d with
  | none => exact kit_ty (a := "NoneType") (b := "list") (r := false) (by decide +kernel)
  | bool _ => exact kit_ty (a := "bool") (b := "list") (r := false) (by decide +kernel)
  | int _ => exact kit_ty (a := "int") (b := "list") (r := false) (by decide +kernel)
  | str _ => exact kit_ty (a := "str") (b := "list") (r := false) (by decide +kernel)
  | list _ => exact kit_ty (a := "list") (b := "list") (r := true) (by decide +kernel)
  | tuple _ => exact kit_ty (a := "tuple") (b := "list") (r := false) (by decide +kernel)
  | dict _ => exact absurd rfl (nd _)
theorem kit_str : PySem.W.kitOne K (.type (kindOf d)) (.type "str") = some (isSt d) := by
  cases d with
  | none => exact kit_ty (a := "NoneType") (b := "str") (r := false) (by decide +kernel)
  | bool _ => exact kit_ty (a := "bool") (b := "str") (r := false) (by decide +kernel)
  | int _ => exact kit_ty (a := "int") (b := "str") (r := false) (by decide +kernel)
  | str _ => exact kit_ty (a := "str") (b := "str") (r := true) (by decide +kernel)
  | list _ => exact kit_ty (a := "list") (b := "str") (r := false) (by decide +kernel)
  | tuple _ => exact kit_ty (a := "tuple") (b := "str") (r := false) (by decide +kernel)
  | dict _ => exact absurd rfl (nd _)
theorem kit_int : PySem.W.kitOne K (.type (kindOf d)) (.type "int") = some (isIn d) := by
  cases d with
  | none => exact kit_ty (a := "NoneType") (b := "int") (r := false) (by decide +kernel)
  | bool _ => exact kit_ty (a := "bool") (b := "int") (r := true) (by decide +kernel)
  | int _ => exact kit_ty (a := "int") (b := "int") (r := true) (by decide +kernel)
  | str _ => exact kit_ty (a := "str") (b := "int") (r := false) (by decide +kernel)
  | list _ => exact kit_ty (a := "list") (b := "int") (r := false) (by decide +kernel)
  | tuple _ => exact kit_ty (a := "tuple") (b := "int") (r := false) (by decide +kernel)
  | dict _ => exact absurd rfl (nd _)
theorem kit_bool : PySem.W.kitOne K (.type (kindOf d)) (.type "bool") = some (isBo d) := by
  cases d with
  | none => exact kit_ty (a := "NoneType") (b := "bool") (r := false) (by decide +kernel)
  | bool _ => exact kit_ty (a := "bool") (b := "bool") (r := true) (by decide +kernel)
  | int _ => exact kit_ty (a := "int") (b := "bool") (r := false) (by decide +kernel)
  | str _ => exact kit_ty (a := "str") (b := "bool") (r := false) (by decide +kernel)
  | list _ => exact kit_ty (a := "list") (b := "bool") (r := false) (by decide +kernel)
  | tuple _ => exact kit_ty (a := "tuple") (b := "bool") (r := false) (by decide +kernel)
  | dict _ => exact absurd rfl (nd _)
theorem kit_tup : PySem.W.kitOne K (.type (kindOf d)) (.type "tuple") = some (isTup d) := by
  cases d with
  | none => exact kit_ty (a := "NoneType") (b := "tuple") (r := false) (by decide +kernel)
  | bool _ => exact kit_ty (a := "bool") (b := "tuple") (r := false) (by decide +kernel)
  | int _ => exact kit_ty (a := "int") (b := "tuple") (r := false) (by decide +kernel)
  | str _ => exact kit_ty (a := "str") (b := "tuple") (r := false) (by decide +kernel)
  | list _ => exact kit_ty (a := "list") (b := "tuple") (r := false) (by decide +kernel)
  | tuple _ => exact kit_ty (a := "tuple") (b := "tuple") (r := true) (by decide +kernel)
  | dict _ => exact absurd rfl (nd _)
theorem kit_seq : PySem.W.kitAny K (.type (kindOf d)) [.type "tuple", .type "list"] = some (isTup d || isLst d) := by
  refine kitAny_cons (kit_tup nd) (fun h => ?_) (fun h => by rw [h]; rfl)
  refine kitAny_cons (kit_lst nd) (fun h2 => ?_) (fun h2 => by rw [h2, Bool.or_true])
  rw [h, h2]
  exact kitAny_nil
end
theorem Dp.seq {K : PySem.W.Frag} {H : Hp} {x : V} {d : PyData} (h : Dp K H x d) (s : (isTup d || isLst d) = true) : ∃ a xs, x = .ref a ∧ (SqL K H a xs ∨ SqT K H a xs) ∧ DpAll K H xs (its d) := by
  cases h with
  | lst hs ha => exact ⟨_, _, rfl, .inl hs, ha⟩
  | tup hs ha => exact ⟨_, _, rfl, .inr hs, ha⟩
  | _ => cases s
theorem its_eq {d e : PyData} (h1 : (isTup d || isLst d) = true) (h2 : (isTup e || isLst e) = true) (h : isLst d = isLst e) : d = e ↔ its d = its e := by
  constructor
  · intro q; rw [q]
  · intro q
    match d, e, h1, h2, h, q with
    | .list _, .list _, _, _, _, q => exact congrArg PyData.list q
    | .tuple _, .tuple _, _, _, _, q => exact congrArg PyData.tuple q
    | .list _, .tuple _, _, _, h, _ => cases h
    | .tuple _, .list _, _, _, h, _ => cases h
/-- at the places where two lists differ -/
theorem differ_at {α : Type} {l m : List α} {n : Nat} {ks : List Nat} (h1 : l.length = n) (h2 : m.length = n) (hk : ∀ k, k ∈ ks ↔ k < n ∧ l[k]? ≠ m[k]?) : ks = [] ↔ l = m := by
  constructor
  · intro e
    refine List.ext_getElem? fun k => ?_
    by_cases hlt : k < n
    · by_cases q : l[k]? = m[k]?
      · exact q
      · have := (hk k).mpr ⟨hlt, q⟩
        rw [e] at this
        cases this
    · rw [List.getElem?_eq_none (by omega), List.getElem?_eq_none (by omega)]
  · intro e
    cases ks with
    | nil => rfl
    | cons k ks => exact absurd (by rw [e]) ((hk k).mp List.mem_cons_self).2
abbrev s_law_alike : Stmt := top 60
abbrev n_law_alike : List Str := ["found", "due", "k"]
abbrev p_law_alike : List Str := ["found", "due"]
theorem sc_law_alike : FnScope n_law_alike p_law_alike (defScope s_law_alike) := ⟨rfl, rfl, rfl, by decide +kernel, rfl, by decide +kernel, by decide +kernel⟩
def spAlike (K : PySem.W.Frag) (n : Nat) : Sp := fun vs H Q _ => ∃ (x y : V) (d e : PyData), vs = [x, y] ∧ Dp K H x d ∧ Dp K H y e ∧ Pl 20 d ∧ Pl n e ∧ ∀ (b : Bool) (H' : Hp), (b = true ↔ d = e) → Same H H' → Q (.bl b) H'
theorem eqv_atom {d e : PyData} (hd : ∀ kv, d ≠ .dict kv) (he : (isTup e || isLst e) = false) (hb : isBo d = isBo e) : PyData.eqv d e = true ↔ d = e := by
  cases e <;> first | cases he | skip
  all_goals cases d <;> first | exact absurd rfl (hd _) | cases hb | skip
  all_goals simp [PyData.eqv]
section
variable {P : Program} {w : World} {K : PySem.W.Frag} {mg : Str → Option Value} {base : Heap}
/-- one round of it; what it calls within is of a lesser depth -/
theorem ok_alike_step {f : Addr} {fd : FuncData} {n k : Nat} (hn : n ≤ 20) (D : Dfn K mg "_law_alike" s_law_alike p_law_alike f fd) (B : Bi mg)
    (IH : ∃ sp0, FnOk P w K mg base CX0 k f fd p_law_alike sp0 ∧ ∀ vs H Q E, n ≠ 0 → spAlike K (n - 1) vs H Q E → sp0 vs H Q E) :
    FnOk P w K mg base CX0 (k + 1) f fd p_law_alike (spAlike K n) := by
  have nd := sc_law_alike.nd
  obtain ⟨sp0, G0, I0⟩ := IH
  refine D.F.ok sc_law_alike (fun vs H Q E h => ?_) (fun cdv A outer s H vs Q E hr h => ?_)
  · obtain ⟨x, y, d, e, rfl, _⟩ := h
    rfl
  · obtain ⟨x, y, d, e, rfl, hd, he, pd, pe, q⟩ := h
    refine ⟨_, pss_cons (ps_if (pt_val (pe_callB call_isiT (by rfl) B.isinstance (by decide +kernel) (pa_cons (pv 1) (pa_cons (pe_tup (pa_cons (pe_bltn (v := .ty "tuple") (by rfl) B.tuple (by decide +kernel) rfl) (pa_cons (pe_bltn (v := .ty "list") (by rfl) B.list (by decide +kernel) rfl) pa_nil))) pa_nil))))
        (pss_cons (ps_if (PW.pt (pw_or (pt_not (pt_val (pe_callB call_isiT (by rfl) B.isinstance (by decide +kernel) (pa_cons (pv 0) (pa_cons (pe_tup (pa_cons (pe_bltn (v := .ty "tuple") (by rfl) B.tuple (by decide +kernel) rfl) (pa_cons (pe_bltn (v := .ty "list") (by rfl) B.list (by decide +kernel) rfl) pa_nil))) pa_nil)))))
            (pw_or1 (pt_cmpR op_ne (pe_callB call_isi (by rfl) B.isinstance (by decide +kernel) (pa_cons (pv 0) (pa_cons (pe_bltn (v := .ty "list") (by rfl) B.list (by decide +kernel) rfl) pa_nil))) (pe_callB call_isi (by rfl) B.isinstance (by decide +kernel) (pa_cons (pv 1) (pa_cons (pe_bltn (v := .ty "list") (by rfl) B.list (by decide +kernel) rfl) pa_nil))) (nomark _)))))
            (pss_one (ps_ret pe_bl)) pss_nil)
        (pss_cons (ps_if (pt_cmpR op_ne (pe_callB call_len_seq (by rfl) B.len PySem.boot_len (pa_cons (pv 0) pa_nil)) (pe_callB call_len_seq (by rfl) B.len PySem.boot_len (pa_cons (pv 1) pa_nil)) (nomark _)) (pss_one (ps_ret pe_bl)) pss_nil)
        (pss_one (ps_ret (pe_cmpR (op_eqD hr.units)
          (pe_lc (own := [("k", 2)]) (g := gName 2) rfl nd (pi_range1 (by rfl) B.range (pa_cons (pe_callB call_len_seq (by rfl) B.len PySem.boot_len (pa_cons (pv 1) pa_nil)) pa_nil))
            (blkOk_by (N := n_law_alike) (sc := defScope s_law_alike) (by decide +kernel)) (fun _ _ _ _ _ => pg_name (i := 2) nd rfl (.inl rfl))
            (fun _ _ _ _ _ => pts_one (pt_not (pt_val (pe_call G0 hr (by rfl) D.g D.F.kp D.b .nil pass0 (pa_cons (pe_ix (r := rIx K) ix_seq (pv 0) (pv 2) (fun _ _ => rfl)) (pa_cons (pe_ix (r := rIx K) ix_seq (pv 1) (pv 2) (fun _ _ => rfl)) pa_nil))))))
            (fun _ _ _ _ _ => pv 2))
          (pe_lst pa_nil) (nomark _)))))) pss_nil)
      (pss_cons (ps_if (PW.pt (pw_or (pt_cmpR op_isN (pv 1) pe_non (nomark _)) (pw_or1 (pt_val (pe_callB call_isi (by rfl) B.isinstance (by decide +kernel) (pa_cons (pv 1) (pa_cons (pe_bltn (v := .ty "str") (by rfl) B.str (by decide +kernel) rfl) pa_nil)))))))
        (pss_one (ps_ret (pe_and (pe_cmpR (op_eqD hr.units) (pv 0) (pv 1) (nomark _)) (pe_one (pe_cmpR op_eq (pe_callB call_isi (by rfl) B.isinstance (by decide +kernel) (pa_cons (pv 0) (pa_cons (pe_bltn (v := .ty "str") (by rfl) B.str (by decide +kernel) rfl) pa_nil))) (pe_callB call_isi (by rfl) B.isinstance (by decide +kernel) (pa_cons (pv 1) (pa_cons (pe_bltn (v := .ty "str") (by rfl) B.str (by decide +kernel) rfl) pa_nil))) (nomark _)))))) pss_nil)
      (pss_one (ps_ret (pe_and (pe_callB call_isi (by rfl) B.isinstance (by decide +kernel) (pa_cons (pv 0) (pa_cons (pe_bltn (v := .ty "int") (by rfl) B.int (by decide +kernel) rfl) pa_nil)))
        (pe_and (pe_cmpR op_eq (pe_callB call_isi (by rfl) B.isinstance (by decide +kernel) (pa_cons (pv 0) (pa_cons (pe_bltn (v := .ty "bool") (by rfl) B.bool (by decide +kernel) rfl) pa_nil))) (pe_callB call_isi (by rfl) B.isinstance (by decide +kernel) (pa_cons (pv 1) (pa_cons (pe_bltn (v := .ty "bool") (by rfl) B.bool (by decide +kernel) rfl) pa_nil))) (nomark _))
        (pe_one (pe_cmpR (op_eqD hr.units) (pv 0) (pv 1) (nomark _)))))))), ?_⟩
    have nde := Dp.nod he
    have ndd := Dp.nod hd
    have clsp : Paired ClsV [V.ty "tuple", V.ty "list"] [Value.type "tuple", Value.type "list"] := .cons (.ty _) (.cons (.ty _) .nil)
    refine ⟨_, rfl, (by show 2 ≤ sizeLine; decide), fun tp htp => ?_⟩
    have s1 : Same H (upd H tp (.tup [V.ty "tuple", V.ty "list"])) := Same.new htp
    refine ⟨y, tp, _, _, _, _, rfl, upd_same, clsp, Dp.ty (Dp.same s1 e y he), kit_seq nde, _, rfl, ?_⟩
    generalize upd H tp (.tup [V.ty "tuple", V.ty "list"]) = H1 at s1
    by_cases se : (isTup e || isLst e) = true
    · rw [se]
      refine iteT ?_
      -- not isinstance(found, (tuple, list)) or ..
      refine ⟨_, rfl, (by show 2 ≤ sizeLine; decide), fun tq htq => ?_⟩
      have s2 : Same H (upd H1 tq (.tup [V.ty "tuple", V.ty "list"])) := s1.trans (Same.new htq)
      refine ⟨x, tq, _, _, _, _, rfl, upd_same, clsp, Dp.ty (Dp.same s2 d x hd), kit_seq ndd, _, rfl, ?_⟩
      generalize upd H1 tq (.tup [V.ty "tuple", V.ty "list"]) = H2 at s2
      by_cases sd : (isTup d || isLst d) = true
      · rw [sd]
        refine iteF ?_
        refine ⟨_, rfl, x, _, _, _, _, rfl, .ty _, Dp.ty (Dp.same s2 d x hd), kit_lst ndd, _, rfl, y, _, _, _, _, rfl, .ty _, Dp.ty (Dp.same s2 e y he), kit_lst nde, rfl, _, rfl, ?_⟩
        by_cases sl : isLst d = isLst e
        · have hh : (!decide (V.bl (isLst d) = V.bl (isLst e))) = false := by rw [sl, decide_eq_true rfl]; rfl
          rw [hh]
          refine iteF ?_
          -- len(found) != len(due)
          obtain ⟨a1, xs1, rfl, q1, dx1⟩ := Dp.seq (Dp.same s2 d x hd) sd
          obtain ⟨a2, xs2, rfl, q2, dx2⟩ := Dp.seq (Dp.same s2 e y he) se
          refine ⟨_, rfl, a1, xs1, rfl, q1, _, rfl, a2, xs2, rfl, q2, rfl, _, rfl, ?_⟩
          rw [DpAll.len dx1, DpAll.len dx2]
          by_cases ll : (its d).length = (its e).length
          · have hh2 : (!decide (V.int ((its d).length : Int) = V.int ((its e).length : Int))) = false := by rw [ll, decide_eq_true rfl]; rfl
            rw [hh2]
            refine iteF ?_
            have hlen : (its e).length ≤ 100000 := by
              match e, se, pe with
              | .list es, _, pe => cases n <;> first | exact pe.elim | exact pe.1
              | .tuple es, _, pe => cases n <;> first | exact pe.elim | exact pe.1
            have hn0 : n ≠ 0 := by
              intro z
              subst z
              match e, se, pe with
              | .list es, _, pe => exact pe
              | .tuple es, _, pe => exact pe
            have ite : ∀ z, z ∈ its e → Pl (n - 1) z := by
              match e, se, pe with
              | .list es, _, pe => cases n <;> first | exact pe.elim | exact pe.2
              | .tuple es, _, pe => cases n <;> first | exact pe.elim | exact pe.2
            have itd : ∀ z, z ∈ its d → Pl 20 z := by
              match d, sd, pd with
              | .list es, _, pd => exact fun z hz => Pl.succ _ _ (pd.2 z hz)
              | .tuple es, _, pd => exact fun z hz => Pl.succ _ _ (pd.2 z hz)
            refine ⟨_, rfl, a2, xs2, rfl, q2, _, rfl, by omega, by rw [DpAll.len dx2]; omega, fun Dl hD => ?_⟩
            have hDH : H2 Dl = none := hD
            refine lc_range (lo := 0) (n := xs2.length) (fun i H3 => ∃ ks : List Nat, H3 Dl = some (.lst (bV ks)) ∧ Same H2 H3 ∧ ks.length ≤ i ∧ ∀ k, k ∈ ks ↔ k < i ∧ (its d)[k]? ≠ (its e)[k]?) ?_ ?_ ?_
            · exact ⟨[], upd_same, Same.new hD, Nat.le_refl _, fun k => ⟨(fun z => nomatch z), fun z => absurd z.1 (Nat.not_lt_zero _)⟩⟩
            · rintro i H3 hi ⟨ks, hks, s3, hl, hk⟩
              rw [DpAll.len dx2] at hi
              obtain ⟨x1, g1, p1⟩ := DpAll.get (i := i) dx1 (by omega)
              obtain ⟨x2, g2, p2⟩ := DpAll.get (i := i) dx2 hi
              have w1 : (SqL K H3 a1 xs1 ∨ SqT K H3 a1 xs1) := q1.elim (fun z => .inl (s3.seq z)) fun z => .inr (Same.seqT s3 z)
              have w2 : (SqL K H3 a2 xs2 ∨ SqT K H3 a2 xs2) := q2.elim (fun z => .inl (s3.seq z)) fun z => .inr (Same.seqT s3 z)
              have at1 : atI xs1 (0 + (i : Int)) = some x1 := at_of (j := i) (by omega) g1
              have at2 : atI xs2 (0 + (i : Int)) = some x2 := at_of (j := i) (by omega) g2
              refine ⟨rfl, ?_⟩
              refine ⟨_, rfl, _, rfl, ?_⟩
              have step : ∀ {Q : V → Hp → Prop} {a : Addr} {xs : List V} {v : V}, (SqL K H3 a xs ∨ SqT K H3 a xs) → atI xs (0 + (i : Int)) = some v → Q v H3 → rIx K (.ref a) (.int (0 + (i : Int))) H3 Q := fun w g z => by
                rcases w with w | w
                · exact .inl ⟨_, _, _, _, rfl, rfl, w, g, z⟩
                · exact .inr (.inl ⟨_, _, _, _, rfl, rfl, w, g, z⟩)
              refine step w1 at1 ?_
              refine ⟨_, rfl, _, rfl, ?_⟩
              refine step w2 at2 ?_
              refine I0 _ _ _ _ hn0 ⟨x1, x2, _, _, rfl, Dp.same s3 _ _ p1, Dp.same s3 _ _ p2, itd _ (List.getElem_mem _), ite _ (List.getElem_mem _), fun b H4 hb s4 => ?_⟩
              have gd : (its d)[i]? = some ((its d)[i]'(by omega)) := List.getElem?_eq_getElem (by omega)
              have ge : (its e)[i]? = some (its e)[i] := List.getElem?_eq_getElem hi
              refine ⟨b, rfl, ?_⟩
              cases b with
              | true =>
                refine iteF ?_
                have eq := hb.mp rfl
                refine ⟨ks, s4 _ _ hks, s3.trans s4, Nat.le_succ_of_le hl, fun k => ?_⟩
                rw [hk k]
                constructor
                · rintro ⟨z1, z2⟩
                  exact ⟨Nat.lt_succ_of_lt z1, z2⟩
                · rintro ⟨z1, z2⟩
                  refine ⟨?_, z2⟩
                  rcases Nat.lt_succ_iff_lt_or_eq.mp z1 with z | z
                  · exact z
                  · subst z
                    exact absurd (by rw [gd, ge, eq]) z2
              | false =>
                refine iteT ?_
                have neq : (its d)[i]'(by omega) ≠ (its e)[i] := fun z => by cases (hb.mpr z)
                refine ⟨_, rfl, bV ks, s4 _ _ hks, ?_, ks ++ [i], ?_, ?_, ?_, fun k => ?_⟩
                · rw [bV_len]
                  exact Nat.lt_of_le_of_lt hl (Nat.lt_of_lt_of_le hi (Nat.le_trans hlen (by decide)))
                · rw [upd_same, bV_app, show (0 : Int) + (i : Int) = (i : Int) by omega]
                · exact fun c o z => by
                    rw [upd_ne (ne_of_none z hDH)]
                    exact (s3.trans s4) c o z
                · rw [List.length_append]
                  exact Nat.succ_le_succ hl
                · rw [List.mem_append, hk k]
                  constructor
                  · rintro (⟨z1, z2⟩ | z)
                    · exact ⟨Nat.lt_succ_of_lt z1, z2⟩
                    · have : k = i := by simpa using z
                      subst this
                      exact ⟨Nat.lt_succ_self _, fun z => neq (Option.some.inj (gd.symm.trans (z.trans ge)))⟩
                  · rintro ⟨z1, z2⟩
                    rcases Nat.lt_succ_iff_lt_or_eq.mp z1 with z | z
                    · exact .inl ⟨z, z2⟩
                    · exact .inr (by simp [z])
            · rintro H3 ⟨ks, hks, s3, hl, hk⟩
              rw [DpAll.len dx2] at hk
              refine ⟨Nat.zero_le _, fun p hp => ?_⟩
              have s5 : Same H3 (upd H3 p (.lst [])) := Same.new hp
              have dpi : ∀ (zs : List Nat) (Hx : Hp), DpAll K Hx (bV zs) (zs.map fun (z : Nat) => PyData.int (z : Int)) := by
                intro zs Hx
                induction zs with
                | nil => exact .nil
                | cons z zs ih => exact .cons (.int _) ih
              have pli : Pl 1 (.list (ks.map fun (z : Nat) => PyData.int (z : Int))) := ⟨by rw [List.length_map]; exact Nat.le_trans hl (by rw [DpAll.len dx2]; exact hlen), fun z hz => by
                obtain ⟨m, _, rfl⟩ := List.mem_map.mp hz
                exact True.intro⟩
              refine ⟨.list (ks.map fun (z : Nat) => PyData.int (z : Int)), .list [], .lst (SqL.of (s5 _ _ hks)) (dpi _ _), .lst (SqL.of upd_same) .nil, pli.shaped (by decide), rfl, ?_⟩
              refine q _ _ ?_ ((s2.trans s3).trans s5)
              rw [its_eq sd se sl, ← differ_at (n := (its e).length) ll rfl hk]
              cases ks with
              | nil => exact ⟨fun _ => rfl, fun _ => by simp [PyData.eqv, PyData.eqvAll]⟩
              | cons k ks => exact ⟨fun z => by simp [PyData.eqv, PyData.eqvAll] at z, fun z => by cases z⟩
          · have hh2 : (!decide (V.int ((its d).length : Int) = V.int ((its e).length : Int))) = true := by
              rw [decide_eq_false (fun z => ll (by injection z with z; omega))]; rfl
            rw [hh2]
            refine iteT ?_
            exact q false H2 ⟨(fun z => nomatch z), fun z => absurd (by rw [z]) ll⟩ s2
        · have hh : (!decide (V.bl (isLst d) = V.bl (isLst e))) = true := by
            rw [decide_eq_false (fun z => sl (by injection z))]; rfl
          rw [hh]
          refine iteT ?_
          exact q false H2 ⟨(fun z => nomatch z), fun z => absurd (by rw [z]) sl⟩ s2
      · rw [Bool.not_eq_true] at sd
        rw [sd]
        refine iteT ?_
        refine iteT ?_
        exact q false H2 ⟨(fun z => nomatch z), fun z => by rw [z, se] at sd; cases sd⟩ s2
    · rw [Bool.not_eq_true] at se
      rw [se]
      refine iteF ?_
      have s2 := s1
      have shd := pd.shaped (by decide)
      have she := pe.shaped (by omega)
      have hy : decide (y = V.non) = isNo e := by cases he <;> simp [isNo]
      have hstr : (isNo e || isSt e) = true → Q (V.bl (decide (V.bl (isSt d) = V.bl (isSt e)) && PyData.eqv d e)) H1 := fun z => by
        refine q _ _ ?_ s2
        match e, z with
        | .none, _ => cases d <;> simp [PyData.eqv, isSt]
        | .str _, _ => cases d <;> simp [PyData.eqv, isSt]
      have fin1 : (isNo e || isSt e) = true → (∃ c, V.bl (PyData.eqv d e) = V.bl c ∧ if c = true then tCB (rIsi K) (tCons (tVar 0) (tCons (tC (.ty "str")) tNil)) [some x, some y, none] H1 (fun u H2 => tCB (rIsi K) (tCons (tVar 1) (tCons (tC (.ty "str")) tNil)) [some x, some y, none] H2 fun v H3 => rEq u v H3 Q) else Q (.bl false) H1) := fun z => by
        have h1 := hstr z
        refine ⟨_, rfl, ?_⟩
        cases hv : PyData.eqv d e with
        | true =>
          refine iteT ?_
          rw [hv, Bool.and_true] at h1
          exact ⟨_, rfl, x, _, _, _, _, rfl, .ty _, Dp.ty (Dp.same s2 d x hd), kit_str ndd, _, rfl, y, _, _, _, _, rfl, .ty _, Dp.ty (Dp.same s2 e y he), kit_str nde, rfl, h1⟩
        | false =>
          refine iteF ?_
          rw [hv, Bool.and_false] at h1
          exact h1
      -- if due is None or isinstance(due, str)
      refine ⟨_, rfl, rfl, _, rfl, ?_⟩
      rw [hy]
      by_cases no : isNo e = true
      · rw [no]
        refine iteT ?_
        refine iteT ?_
        exact ⟨_, rfl, _, rfl, d, e, Dp.same s2 d x hd, Dp.same s2 e y he, shd, she, fin1 (by rw [no]; rfl)⟩
      · rw [Bool.not_eq_true] at no
        rw [no]
        refine iteF ?_
        refine ⟨_, rfl, y, _, _, _, _, rfl, .ty _, Dp.ty (Dp.same s2 e y he), kit_str nde, _, rfl, ?_⟩
        by_cases st : isSt e = true
        · rw [st]
          refine iteT ?_
          exact ⟨_, rfl, _, rfl, d, e, Dp.same s2 d x hd, Dp.same s2 e y he, shd, she, fin1 (by rw [st, Bool.or_true])⟩
        · rw [Bool.not_eq_true] at st
          rw [st]
          refine iteF ?_
          -- isinstance(found, int) and ..
          have ine : isIn e = true := by
            match e, se, no, st, nde with
            | .bool _, _, _, _, _ => rfl
            | .int _, _, _, _, _ => rfl
            | .dict kv, _, _, _, nde => exact absurd rfl (nde kv)
          refine ⟨_, rfl, x, _, _, _, _, rfl, .ty _, Dp.ty (Dp.same s2 d x hd), kit_int ndd, _, rfl, ?_⟩
          by_cases ind : isIn d = true
          · rw [ind]
            refine iteT ?_
            refine ⟨_, rfl, x, _, _, _, _, rfl, .ty _, Dp.ty (Dp.same s2 d x hd), kit_bool ndd, _, rfl, y, _, _, _, _, rfl, .ty _, Dp.ty (Dp.same s2 e y he), kit_bool nde, rfl, _, rfl, ?_⟩
            by_cases bb : isBo d = isBo e
            · rw [decide_eq_true (show V.bl (isBo d) = V.bl (isBo e) by rw [bb])]
              refine iteT ?_
              refine ⟨_, rfl, _, rfl, d, e, Dp.same s2 d x hd, Dp.same s2 e y he, shd, she, ?_⟩
              exact q _ _ (eqv_atom ndd se bb) s2
            · rw [decide_eq_false (show ¬ V.bl (isBo d) = V.bl (isBo e) from fun z => bb (by injection z))]
              refine iteF ?_
              exact q false H1 ⟨(fun z => nomatch z), fun z => absurd (by rw [z]) bb⟩ s2
          · rw [Bool.not_eq_true] at ind
            rw [ind]
            refine iteF ?_
            exact q false H1 ⟨(fun z => nomatch z), fun z => by rw [z, ine] at ind; cases ind⟩ s2
/-- alike at every depth to 20 -/
theorem ok_alike {f : Addr} {fd : FuncData} (D : Dfn K mg "_law_alike" s_law_alike p_law_alike f fd) (B : Bi mg) : ∀ n, n ≤ 20 → FnOk P w K mg base CX0 (n + 2) f fd p_law_alike (spAlike K n)
  | 0, hn => ok_alike_step hn D B ⟨fun _ _ _ _ => False, by
      obtain ⟨oc, od, kV, doc, pm, an, cdv, ct, osl, rfl, lk, hcd⟩ := D.F.ex
      exact D.F.ok (k := 0) sc_law_alike (fun vs H Q E h => h.elim) (fun cdv A outer s H vs Q E hr h => h.elim), fun vs H Q E h => absurd rfl h⟩
  | n + 1, hn => ok_alike_step hn D B ⟨spAlike K n, ok_alike D B n (by omega), fun vs H Q E _ h => h⟩
end
section
/-- bytes as data -/
def dI (l : List Nat) : List PyData := l.map fun (n : Nat) => PyData.int (n : Int)
theorem dI_all (K : PySem.W.Frag) (H : Hp) : ∀ l : List Nat, DpAll K H (bV l) (dI l)
  | [] => .nil
  | n :: l => .cons (.int _) (dI_all K H l)
theorem dI_pl {l : List Nat} (h : l.length ≤ 100000) : Pl 1 (.tuple (dI l)) := ⟨by unfold dI; rw [List.length_map]; exact h, fun z hz => by
  obtain ⟨m, _, rfl⟩ := List.mem_map.mp hz
  exact True.intro⟩
theorem dI_plL {l : List Nat} (h : l.length ≤ 100000) : Pl 1 (.list (dI l)) := ⟨by unfold dI; rw [List.length_map]; exact h, fun z hz => by
  obtain ⟨m, _, rfl⟩ := List.mem_map.mp hz
  exact True.intro⟩
theorem dI_inj : ∀ {l m : List Nat}, dI l = dI m → l = m
  | [], [], _ => rfl
  | [], _ :: _, h => by cases h
  | _ :: _, [], h => by cases h
  | a :: l, b :: m, h => by
    have h' : PyData.int (a : Int) :: dI l = PyData.int (b : Int) :: dI m := h
    injection h' with h1 h2
    injection h1 with h1
    rw [dI_inj h2, show a = b by omega]
theorem dI_eqvAll : ∀ l m : List Nat, PyData.eqvAll (dI l) (dI m) = decide (l = m)
  | [], [] => by simp [dI, PyData.eqvAll]
  | [], _ :: _ => by simp [dI, PyData.eqvAll]
  | _ :: _, [] => by simp [dI, PyData.eqvAll]
  | a :: l, b :: m => by
    have ih := dI_eqvAll l m
    show PyData.eqvAll (PyData.int (a : Int) :: dI l) (PyData.int (b : Int) :: dI m) = _
    simp only [PyData.eqvAll, PyData.eqv]
    rw [ih]
    by_cases h1 : a = b
    · subst h1
      simp
    · have : ¬ ((a : Int) = (b : Int)) := by omega
      simp [h1, this]
end
/-! ### the program: counts -/
abbrev sis_between : Stmt := top 9
abbrev nis_between : List Str := ["value", "least", "most"]
abbrev pis_between : List Str := ["value", "least", "most"]
theorem scis_between : FnScope nis_between pis_between (defScope sis_between) := ⟨rfl, rfl, rfl, by decide +kernel, rfl, by decide +kernel, by decide +kernel⟩
def spBtw : Sp := fun vs H Q _ => ∃ (v a b : Int), vs = [.int v, .int a, .int b] ∧ Q (.bl (decide (a ≤ v ∧ v ≤ b))) H
section
variable {P : Program} {w : World} {K : PySem.W.Frag} {mg : Str → Option Value} {base : Heap}
theorem ok_btw {f : Addr} {fd : FuncData} (D : Dfn K mg "is_between" sis_between pis_between f fd) (B : Bi mg) : FnOk P w K mg base CX0 1 f fd pis_between spBtw := by
  have nd := scis_between.nd
  refine D.F.ok scis_between (fun vs H Q E h => ?_) (fun cdv A outer s H vs Q E hr h => ?_)
  · obtain ⟨v, a, b, rfl, _⟩ := h
    rfl
  · obtain ⟨v, a, b, rfl, q⟩ := h
    refine ⟨_, pss_one (ps_ret (pe_and (pe_cmpR op_isTyB (pe_callTy call_type1 (by rfl) B.type (by decide +kernel) (pa_cons (pv 0) pa_nil)) (pe_bltn (v := .ty "int") (by rfl) B.int (by decide +kernel) rfl) (nomark _))
      (pe_one (pe_chain op_le op_le (pv 1) (pv 0) (pv 2))))), ?_⟩
    refine ⟨_, rfl, _, "int", rfl, .int _, _, _, rfl, rfl, _, rfl, ?_⟩
    refine iteT ?_
    refine ⟨_, rfl, _, rfl, _, _, rfl, rfl, _, rfl, ?_⟩
    by_cases h1 : a ≤ v
    · rw [decide_eq_true h1]
      refine iteT ?_
      refine ⟨_, rfl, _, _, rfl, rfl, ?_⟩
      have e : decide (v ≤ b) = decide (a ≤ v ∧ v ≤ b) := by
        rw [decide_eq_decide]
        exact ⟨fun h => ⟨h1, h⟩, fun h => h.2⟩
      show Q (V.bl (decide (v ≤ b))) H
      rw [e]
      exact q
    · rw [decide_eq_false h1]
      refine iteF ?_
      have e : decide (a ≤ v ∧ v ≤ b) = false := decide_eq_false fun h => h1 h.1
      rw [e] at q
      exact q
end
/-! ### signs, values and their draws (out of the templates of k01, is_signs for any bounds) -/
/-! ### texts, by the places of their signs -/
def sgs : Str := "abcdefghijklmnopqrstuvwxyzABCDEFGHIJKLMNOPQRSTUVWXYZ0123456789 .,:;-_/+*()=?!"
theorem sgs_len : sgs.cps.size = 77 := by decide +kernel
def sg (k : Nat) : Nat := sgs.cps.getD k 0
theorem sg_in : ∀ k, k < 77 → sgs.cps.contains (sg k) = true := by decide +kernel
theorem sg_inj : ∀ i, i < 77 → ∀ j, j < 77 → sg i = sg j → i = j := by decide +kernel
def tx (l : List Nat) : Str := ⟨(l.map sg).toArray⟩
theorem tx_len (l : List Nat) : (tx l).length = l.length := by
  unfold tx
  show (l.map sg).toArray.size = l.length
  rw [List.size_toArray, List.length_map]
theorem tx_nil : tx [] = Str.ofString "" := by rfl
theorem tx_inj : ∀ {l m : List Nat}, (∀ k, k ∈ l → k < 77) → (∀ k, k ∈ m → k < 77) → tx l = tx m → l = m := by
  intro l m hl hm h
  have h2 : l.map sg = m.map sg := by
    have := congrArg (fun s : Str => s.cps.toList) h
    simpa [tx] using this
  clear h
  induction l generalizing m with
  | nil => cases m with
    | nil => rfl
    | cons b m => cases h2
  | cons a l ih => cases m with
    | nil => cases h2
    | cons b m =>
      rw [List.map_cons, List.map_cons] at h2
      injection h2 with e1 e2
      rw [sg_inj a (hl a List.mem_cons_self) b (hm b List.mem_cons_self) e1, ih (fun k hk => hl k (List.mem_cons_of_mem _ hk)) (fun k hk => hm k (List.mem_cons_of_mem _ hk)) e2]
theorem take_all_good {α : Type} {p : α → Bool} : ∀ {l : List α}, (∀ a, a ∈ l → p a = true) → l.takeWhile p = l
  | [], _ => rfl
  | a :: l, h => by
    rw [List.takeWhile_cons, if_pos (h a List.mem_cons_self), take_all_good fun b hb => h b (List.mem_cons_of_mem _ hb)]
theorem strip_tx {l : List Nat} (h : ∀ k, k ∈ l → k < 77) : Txt.stripChars (tx l) sgs = Str.ofString "" := by
  unfold Txt.stripChars
  rw [PySem.W.stripBy_eq]
  unfold PySem.W.stripped
  have e1 : ((tx l).cps.toList.takeWhile sgs.cps.contains).length = l.length := by
    have : (tx l).cps.toList.takeWhile sgs.cps.contains = (tx l).cps.toList := take_all_good fun c hc => by
      obtain ⟨k, hk, rfl⟩ := List.mem_map.mp (show c ∈ l.map sg by simpa [tx] using hc)
      exact sg_in k (h k hk)
    rw [this]
    simp [tx]
  have e2 : (tx l).cps.toList.length = l.length := by simp [tx]
  simp only [if_true, e1]
  rw [List.drop_of_length_le (by omega)]
  show Builtin.Str.strSub (tx l) l.length _ = _
  unfold Builtin.Str.strSub
  simp [tx]
  rw [List.drop_of_length_le (by rw [List.length_map]; exact Nat.le_refl _), List.take_nil]
  rfl
abbrev sis_signs : Stmt := top 10
abbrev nis_signs : List Str := ["value", "least", "most"]
abbrev pis_signs : List Str := ["value", "least", "most"]
theorem scis_signs : FnScope nis_signs pis_signs (defScope sis_signs) := ⟨rfl, rfl, rfl, by decide +kernel, rfl, by decide +kernel, by decide +kernel⟩
def Sgs (l : List Nat) : Prop := ∀ k, k ∈ l → k < 77
def spSg : Sp := fun vs H Q _ => ∃ (l : List Nat) (a b : Nat), vs = [.str (tx l), .int a, .int b] ∧ Sgs l ∧ a ≤ l.length ∧ l.length ≤ b ∧ b ≤ 10000 ∧ Q (.bl true) H
structure Sx (mg : Str → Option Value) : Prop where
  b : Bi mg
  sg : ∃ t, mg "SIGNS" = some (.str sgs t)
  ms : ∃ t, mg "MOST_SIGNS" = some (.int 200 t)
  mi : ∃ t, mg "MOST_INTEGER" = some (.int 1099511627776 t)
section
variable {P : Program} {w : World} {K : PySem.W.Frag} {mg : Str → Option Value} {base : Heap}
theorem ok_sg {f : Addr} {fd : FuncData} (D : Dfn K mg "is_signs" sis_signs pis_signs f fd) (T : Sx mg) : FnOk P w K mg base CX0 1 f fd pis_signs spSg := by
  have nd := scis_signs.nd
  have B := T.b
  obtain ⟨ts, hsg⟩ := T.sg
  refine D.F.ok scis_signs (fun vs H Q E h => ?_) (fun cdv A outer s H vs Q E hr h => ?_)
  · obtain ⟨l, a, b, rfl, _⟩ := h
    rfl
  · obtain ⟨l, a, b, rfl, hl, ha, hz, hb, q⟩ := h
    have hlen : (tx l).length ≤ sizeLine := by rw [tx_len]; exact Nat.le_trans (Nat.le_trans hz hb) (by decide)
    refine ⟨_, pss_one (ps_ret (pe_and (pe_cmpR op_isTyB (pe_callTy call_type1 (by rfl) B.type (by decide +kernel) (pa_cons (pv 0) pa_nil)) (pe_bltn (v := .ty "str") (by rfl) B.str (by decide +kernel) rfl) (nomark _))
      (pe_and (pe_chain op_le op_le (pv 1) (pe_callB call_len_str (by rfl) B.len PySem.boot_len (pa_cons (pv 0) pa_nil)) (pv 2))
      (pe_one (pe_cmpR op_eq (pe_bm PySem.F.plainAttrs_str PySem.F.slot_str_strip PySem.F.type_str_strip mt_stripChars (pv 0) (pa_cons (pe_glob (v := .str sgs) rfl hsg ⟨_, rfl⟩) pa_nil)) pe_str (nomark _)))))), ?_⟩
    refine ⟨_, rfl, _, "str", rfl, .str _, _, _, rfl, rfl, _, rfl, ?_⟩
    refine iteT ?_
    refine ⟨_, rfl, _, rfl, tx l, rfl, hlen, _, _, rfl, rfl, _, rfl, ?_⟩
    rw [tx_len, decide_eq_true (show ((a : Nat) : Int) ≤ (l.length : Int) by omega)]
    refine iteT ?_
    refine ⟨_, rfl, _, _, rfl, rfl, _, rfl, ?_⟩
    rw [decide_eq_true (show (l.length : Int) ≤ ((b : Nat) : Int) by omega)]
    refine iteT ?_
    refine ⟨_, rfl, rfl, tx l, sgs, rfl, rfl, hlen, rfl, ?_⟩
    rw [strip_tx hl, decide_eq_true rfl]
    exact q
end
def spBtwS : Sp := fun vs H Q _ => ∃ (x : Str) (a b : Int), vs = [.str x, .int a, .int b] ∧ Q (.bl false) H
/-- a value that can be kept: None, an integer, a text by the places of its signs -/
inductive Val where
  | non
  | int (i : Int)
  | txt (l : List Nat)
def vV : Val → V
  | .non => .non
  | .int i => .int i
  | .txt l => .str (tx l)
def VOk : Val → Prop
  | .non => True
  | .int i => -1099511627776 ≤ i ∧ i ≤ 1099511627776
  | .txt l => Sgs l ∧ l.length ≤ 200
abbrev sis_value : Stmt := top 11
abbrev nis_value : List Str := ["value"]
abbrev pis_value : List Str := ["value"]
theorem scis_value : FnScope nis_value pis_value (defScope sis_value) := ⟨rfl, rfl, rfl, by decide +kernel, rfl, by decide +kernel, by decide +kernel⟩
def spIV : Sp := fun vs H Q _ => ∃ v : Val, vs = [vV v] ∧ VOk v ∧ Q (.bl true) H
section
variable {P : Program} {w : World} {K : PySem.W.Frag} {mg : Str → Option Value} {base : Heap}
theorem ok_btwS {f : Addr} {fd : FuncData} (D : Dfn K mg "is_between" sis_between pis_between f fd) (B : Bi mg) : FnOk P w K mg base CX0 1 f fd pis_between spBtwS := by
  have nd := scis_between.nd
  refine D.F.ok scis_between (fun vs H Q E h => ?_) (fun cdv A outer s H vs Q E hr h => ?_)
  · obtain ⟨v, a, b, rfl, _⟩ := h
    rfl
  · obtain ⟨v, a, b, rfl, q⟩ := h
    refine ⟨_, pss_one (ps_ret (pe_and (pe_cmpR op_isTyB (pe_callTy call_type1 (by rfl) B.type (by decide +kernel) (pa_cons (pv 0) pa_nil)) (pe_bltn (v := .ty "int") (by rfl) B.int (by decide +kernel) rfl) (nomark _))
      (pe_one (pe_chain op_le op_le (pv 1) (pv 0) (pv 2))))), ?_⟩
    refine ⟨_, rfl, _, "str", rfl, .str _, _, _, rfl, rfl, _, rfl, ?_⟩
    refine iteF ?_
    exact q
theorem ok_iv {f fB fS : Addr} {fd fdB fdS : FuncData} (D : Dfn K mg "is_value" sis_value pis_value f fd) (T : Sx mg) (DB : Dfn K mg "is_between" sis_between pis_between fB fdB) (DS : Dfn K mg "is_signs" sis_signs pis_signs fS fdS) : FnOk P w K mg base CX0 2 f fd pis_value spIV := by
  have nd := scis_value.nd
  obtain ⟨t2, hms⟩ := T.ms
  obtain ⟨t3, hmi⟩ := T.mi
  have GB : FnOk P w K mg base CX0 1 fB fdB pis_between (fun vs H Q E => spBtw vs H Q E ∨ spBtwS vs H Q E) :=
    ⟨fun vs H Q E h => h.elim ((ok_btw (P := P) (w := w) (base := base) DB T.b).len vs H Q E) ((ok_btwS (P := P) (w := w) (base := base) DB T.b).len vs H Q E), fun A outer s H args us vs Q E hr he hb hv hs => hs.elim ((ok_btw DB T.b).run A outer s H args us vs Q E hr he hb hv) ((ok_btwS DB T.b).run A outer s H args us vs Q E hr he hb hv)⟩
  have GS : FnOk P w K mg base CX0 1 fS fdS pis_signs spSg := ok_sg DS T
  refine D.F.ok scis_value (fun vs H Q E h => ?_) (fun cdv A outer s H vs Q E hr h => ?_)
  · obtain ⟨v, rfl, _⟩ := h
    rfl
  · obtain ⟨v, rfl, hv, q⟩ := h
    refine ⟨_, pss_cons (ps_if (PW.pt (pw_or (pt_cmpR op_isN (pv 0) pe_non (nomark _)) (pw_or1 (pt_val (pe_call GB hr (by rfl) DB.g DB.F.kp DB.b .nil pass0 (pa_cons (pv 0) (pa_cons (pe_un un_neg (pe_glob (v := .int 1099511627776) rfl hmi ⟨_, rfl⟩)) (pa_cons (pe_glob (v := .int 1099511627776) rfl hmi ⟨_, rfl⟩) pa_nil)))))))) (pss_one (ps_ret pe_bl)) pss_nil)
      (pss_one (ps_ret (pe_call GS hr (by rfl) DS.g DS.F.kp DS.b .nil pass0 (pa_cons (pv 0) (pa_cons pe_int (pa_cons (pe_glob (v := .int 200) rfl hms ⟨_, rfl⟩) pa_nil)))))), ?_⟩
    cases v with
    | non =>
      refine ⟨_, rfl, rfl, _, rfl, ?_⟩
      refine iteT ?_
      refine iteT ?_
      exact q
    | int i =>
      refine ⟨_, rfl, rfl, _, rfl, ?_⟩
      refine iteF ?_
      refine ⟨_, rfl, _, rfl, .inl ⟨i, -1099511627776, 1099511627776, rfl, _, rfl, ?_⟩⟩
      have hv' : -1099511627776 ≤ i ∧ i ≤ 1099511627776 := hv
      rw [decide_eq_true hv']
      refine iteT ?_
      exact q
    | txt l =>
      refine ⟨_, rfl, rfl, _, rfl, ?_⟩
      refine iteF ?_
      refine ⟨_, rfl, _, rfl, .inr ⟨tx l, -1099511627776, 1099511627776, rfl, _, rfl, ?_⟩⟩
      refine iteF ?_
      exact ⟨_, rfl, l, 0, 200, rfl, hv.1, Nat.zero_le _, hv.2, by decide, q⟩
end
theorem sg_get : ∀ k, k < 77 → sgs.cps.toList[k]? = some (sg k) := by decide +kernel
def sgl (l : List Nat) : List Str := l.map fun k => (⟨#[sg k]⟩ : Str)
theorem sgl_sum (l : List Nat) : ((sgl l).map (·.length)).sum = l.length := by
  induction l with
  | nil => rfl
  | cons a l ih =>
    show 1 + ((sgl l).map (·.length)).sum = l.length + 1
    omega
theorem fold_sgl : ∀ (l : List Nat) (acc : Array Nat), (sgl l).foldl (fun acc p => acc ++ (Str.ofString "").cps ++ p.cps) acc = acc ++ (l.map sg).toArray
  | [], acc => by
    show acc = acc ++ #[]
    simp
  | k :: l, acc => by
    have e0 : (Str.ofString "").cps = #[] := by rfl
    show (sgl l).foldl (fun acc p => acc ++ (Str.ofString "").cps ++ p.cps) (acc ++ (Str.ofString "").cps ++ #[sg k]) = _
    rw [fold_sgl l, e0]
    simp
theorem join_sgl (l : List Nat) : Txt.join (Str.ofString "") (sgl l) = tx l := by
  cases l with
  | nil => rfl
  | cons k l =>
    show (⟨(sgl l).foldl (fun acc p => acc ++ (Str.ofString "").cps ++ p.cps) #[sg k]⟩ : Str) = tx (k :: l)
    rw [fold_sgl]
    unfold tx
    simp
/-! ### the law's draws of texts and values -/
abbrev s_law_signs_row : Stmt := top 52
abbrev n_law_signs_row : List Str := []
abbrev p_law_signs_row : List Str := []
theorem sc_law_signs_row : FnScope n_law_signs_row p_law_signs_row (defScope s_law_signs_row) := ⟨rfl, rfl, rfl, by decide +kernel, rfl, by decide +kernel, by decide +kernel⟩
def spRow : Sp := fun vs H Q _ => vs = [] ∧ Q (.str sgs) H
abbrev s_law_some_text : Stmt := top 53
abbrev n_law_some_text : List Str := ["row", "most", "k"]
abbrev p_law_some_text : List Str := ["row", "most"]
theorem sc_law_some_text : FnScope n_law_some_text p_law_some_text (defScope s_law_some_text) := ⟨rfl, rfl, rfl, by decide +kernel, rfl, by decide +kernel, by decide +kernel⟩
def spST (K : PySem.W.Frag) : Sp := fun vs H Q _ => ∃ (r sc : Addr) (ns : List Int) (most : Nat), vs = [.ref r, .int most] ∧ RowI K H r sc ns ∧ most ≤ 1000 ∧
  ∀ (l : List Nat) (H' : Hp), Sgs l → l.length ≤ most → RowI K H' r sc ns → Keep r H H' → Q (.str (tx l)) H'
abbrev s_law_signed : Stmt := top 54
abbrev n_law_signed : List Str := ["row", "most"]
abbrev p_law_signed : List Str := ["row", "most"]
theorem sc_law_signed : FnScope n_law_signed p_law_signed (defScope s_law_signed) := ⟨rfl, rfl, rfl, by decide +kernel, rfl, by decide +kernel, by decide +kernel⟩
def spSgd (K : PySem.W.Frag) : Sp := fun vs H Q _ => ∃ (r sc : Addr) (ns : List Int) (most : Nat), vs = [.ref r, .int most] ∧ RowI K H r sc ns ∧ most ≤ 1099511627776 ∧
  ∀ (i : Int) (H' : Hp), -(most : Int) ≤ i → i ≤ most → RowI K H' r sc ns → Keep r H H' → Q (.int i) H'
theorem signs_in {v : V} (h : v ∈ signs1 sgs) : ∃ k, k < 77 ∧ v = .str ⟨#[sg k]⟩ := by
  unfold signs1 at h
  obtain ⟨c, hc, rfl⟩ := List.mem_map.mp h
  obtain ⟨k, hk⟩ := List.getElem?_of_mem hc
  have e0 : sgs.cps.toList.length = 77 := by decide +kernel
  have hk77 : k < 77 := by
    have := (List.getElem?_eq_some_iff.mp hk).1
    omega
  have := sg_get k hk77
  rw [hk] at this
  exact ⟨k, hk77, by rw [Option.some.inj this]⟩
theorem signs_len : (signs1 sgs).length = 77 := by
  unfold signs1
  rw [List.length_map]
  decide +kernel
section
variable {P : Program} {w : World} {K : PySem.W.Frag} {mg : Str → Option Value} {base : Heap}
theorem ok_row {f : Addr} {fd : FuncData} (D : Dfn K mg "_law_signs_row" s_law_signs_row p_law_signs_row f fd) : FnOk P w K mg base CX0 1 f fd p_law_signs_row spRow := by
  have nd := sc_law_signs_row.nd
  refine D.F.ok sc_law_signs_row (fun vs H Q E h => ?_) (fun cdv A outer s H vs Q E hr h => ?_)
  · obtain ⟨rfl, _⟩ := h
    rfl
  · obtain ⟨rfl, q⟩ := h
    refine ⟨_, pss_one (ps_ret pe_str), ?_⟩
    exact q
theorem ok_st {f fT fP fR : Addr} {fd fdT fdP fdR : FuncData} (D : Dfn K mg "_law_some_text" s_law_some_text p_law_some_text f fd) (B : Bi mg) (DT : Dfn K mg "_law_taken" s_law_taken p_law_taken fT fdT) (GT : FnOk P w K mg base CX0 1 fT fdT p_law_taken (spTaken K))
    (DP : Dfn K mg "_law_pick" s_law_pick p_law_pick fP fdP) (GP : FnOk P w K mg base CX0 2 fP fdP p_law_pick (spPick K)) (DR : Dfn K mg "_law_signs_row" s_law_signs_row p_law_signs_row fR fdR) : FnOk P w K mg base CX0 3 f fd p_law_some_text (spST K) := by
  have nd := sc_law_some_text.nd
  have GR : FnOk P w K mg base CX0 1 fR fdR p_law_signs_row spRow := ok_row DR
  refine D.F.ok sc_law_some_text (fun vs H Q E h => ?_) (fun cdv A outer s H vs Q E hr h => ?_)
  · obtain ⟨r, sc, ns, most, rfl, _⟩ := h
    rfl
  · obtain ⟨r, sc, ns, most, rfl, R, hm, q⟩ := h
    have hr1 : Room 1 _ := hr.mono (by decide)
    refine ⟨_, pss_one (ps_ret (pe_join pe_str
      (pe_lc (own := [("k", 2)]) (g := gName 2) (tt := tYes) (te := tCall (spPick K) [] E0 (tCons (tVar 0) (tCons (tCB rListS (tCons (tCall spRow [] E0 tNil) tNil)) tNil))) rfl nd (pi_range1 (by rfl) B.range (pa_cons (pe_call GT hr1 (by rfl) DT.g DT.F.kp DT.b .nil pass0 (pa_cons (pv 0) (pa_cons (pe_op op_add (pv 1) pe_int) pa_nil))) pa_nil))
        (blkOk_by (N := n_law_some_text) (sc := defScope s_law_some_text) (by decide +kernel)) (fun _ _ _ _ _ => pg_name (i := 2) nd rfl (.inl rfl)) (fun _ _ _ _ _ => pts_nil)
        (fun _ _ _ _ _ => by exact pe_call GP hr (by rfl) DP.g DP.F.kp DP.b .nil pass0 (pa_cons (pv 0) (pa_cons (pe_callTy (call_list_strS rfl) (by rfl) B.list (by decide +kernel) (pa_cons (pe_call0 GR hr1 (by rfl) DR.g DR.F.kp DR.b .nil pass0) pa_nil)) pa_nil)))))), ?_⟩
    refine ⟨⟨_, rfl⟩, _, rfl, _, rfl, _, _, rfl, rfl, r, sc, ns, _, rfl, R, by omega, by omega, fun v H1 v0 v1 R1 k1 => ?_⟩
    refine ⟨v, rfl, by omega, by omega, fun Dl hD => ?_⟩
    have nDr : Dl ≠ r := R1.new hD
    have hDH : H Dl = none := k1.free hD nDr
    refine lc_range (lo := 0) (n := v.toNat) (fun i H2 => ∃ l : List Nat, l.length = i ∧ Sgs l ∧ H2 Dl = some (.lst ((sgl l).map V.str)) ∧ RowI K H2 r sc ns ∧ Keep r H H2) ?_ ?_ ?_
    · exact ⟨[], rfl, (fun o h => by cases h), upd_same, R1.same (Same.new hD), k1.trans (Keep.new hD)⟩
    · rintro i H2 hi ⟨l, hl, hb, hd, R2, k2⟩
      refine ⟨rfl, ?_⟩
      refine yes ?_
      refine ⟨_, rfl, rfl, ?_⟩
      refine ⟨sgs, rfl, by rw [show sgs.cps.size = 77 from sgs_len]; decide, fun p hp => ?_⟩
      have npr : p ≠ r := R2.new hp
      have R2' := R2.same (Same.new (o := .lst (signs1 sgs)) hp)
      refine ⟨r, sc, ns, p, signs1 sgs, rfl, R2', SqL.of upd_same, npr, by rw [signs_len]; decide, by rw [signs_len]; decide, fun u H3 hu R3 k3 => ?_⟩
      obtain ⟨c, hc, rfl⟩ := signs_in hu
      have hpD : Dl ≠ p := fun z => by rw [z, hp] at hd; cases hd
      have hd3 : H3 Dl = some (.lst ((sgl l).map V.str)) := k3 _ _ nDr (by rw [upd_ne hpD]; exact hd)
      have kk0 : Keep r H H3 := k2.trans ((Keep.new hp).trans k3)
      have kk : Keep r H (L2.upd H3 Dl (.lst ((sgl l).map V.str ++ [.str ⟨#[sg c]⟩]))) := fun b o n e => by
        rw [upd_ne (ne_of_none e hDH)]
        exact kk0 b o n e
      refine ⟨_, hd3, ?_, l ++ [c], by rw [List.length_append, hl]; rfl, ?_, ?_, R3.ups R nDr kk, kk⟩
      · rw [List.length_map]
        unfold sgl
        rw [List.length_map, hl]
        exact Nat.lt_of_lt_of_le hi (Nat.le_trans (by omega : v.toNat ≤ 10000) (by decide))
      · intro o ho
        rcases List.mem_append.mp ho with ho | ho
        · exact hb o ho
        · rw [List.mem_singleton.mp ho]
          exact hc
      · rw [upd_same]
        unfold sgl
        rw [List.map_append, List.map_append]
        rfl
    · rintro H2 ⟨l, hl, hb, hd, R2, k2⟩
      refine ⟨Str.ofString "", Dl, sgl l, rfl, rfl, .inl (SqL.of hd), ?_, ?_⟩
      · rw [sgl_sum]
        have : (Str.ofString "").length = 0 := by rfl
        rw [this]
        omega
      · rw [join_sgl]
        exact q l _ hb (by omega) R2 k2
theorem ok_sgd {f fT : Addr} {fd fdT : FuncData} (D : Dfn K mg "_law_signed" s_law_signed p_law_signed f fd) (DT : Dfn K mg "_law_taken" s_law_taken p_law_taken fT fdT) (GT : FnOk P w K mg base CX0 1 fT fdT p_law_taken (spTaken K)) : FnOk P w K mg base CX0 2 f fd p_law_signed (spSgd K) := by
  have nd := sc_law_signed.nd
  refine D.F.ok sc_law_signed (fun vs H Q E h => ?_) (fun cdv A outer s H vs Q E hr h => ?_)
  · obtain ⟨r, sc, ns, most, rfl, _⟩ := h
    rfl
  · obtain ⟨r, sc, ns, most, rfl, R, hm, q⟩ := h
    refine ⟨_, pss_one (ps_ret (pe_op op_sub (pe_call GT hr (by rfl) DT.g DT.F.kp DT.b .nil pass0 (pa_cons (pv 0) (pa_cons (pe_op op_add (pe_op op_mul pe_int (pv 1)) pe_int) pa_nil))) (pv 1))), ?_⟩
    refine ⟨_, rfl, _, rfl, _, _, rfl, rfl, .inl ⟨by decide, by decide⟩, _, _, rfl, rfl, r, sc, ns, _, rfl, R, by omega, by omega, fun v H1 v0 v1 R1 k1 => ?_⟩
    exact ⟨_, rfl, _, _, rfl, rfl, q _ _ (by omega) (by omega) R1 k1⟩
end
abbrev s_law_some_value : Stmt := top 55
abbrev n_law_some_value : List Str := ["row", "way"]
abbrev p_law_some_value : List Str := ["row"]
theorem sc_law_some_value : FnScope n_law_some_value p_law_some_value (defScope s_law_some_value) := ⟨rfl, rfl, rfl, by decide +kernel, rfl, by decide +kernel, by decide +kernel⟩
def spSV (K : PySem.W.Frag) : Sp := fun vs H Q _ => ∃ (r sc : Addr) (ns : List Int), vs = [.ref r] ∧ RowI K H r sc ns ∧
  ∀ (v : Val) (H' : Hp), VOk v → RowI K H' r sc ns → Keep r H H' → Q (vV v) H'
section
variable {P : Program} {w : World} {K : PySem.W.Frag} {mg : Str → Option Value} {base : Heap}
theorem ok_sv {f fT fP fS fG : Addr} {fd fdT fdP fdS fdG : FuncData} (D : Dfn K mg "_law_some_value" s_law_some_value p_law_some_value f fd) (DT : Dfn K mg "_law_taken" s_law_taken p_law_taken fT fdT) (GT : FnOk P w K mg base CX0 1 fT fdT p_law_taken (spTaken K))
    (DP : Dfn K mg "_law_pick" s_law_pick p_law_pick fP fdP) (GP : FnOk P w K mg base CX0 2 fP fdP p_law_pick (spPick K)) (DS : Dfn K mg "_law_some_text" s_law_some_text p_law_some_text fS fdS) (GS : FnOk P w K mg base CX0 3 fS fdS p_law_some_text (spST K))
    (DG : Dfn K mg "_law_signed" s_law_signed p_law_signed fG fdG) (GG : FnOk P w K mg base CX0 2 fG fdG p_law_signed (spSgd K)) : FnOk P w K mg base CX0 4 f fd p_law_some_value (spSV K) := by
  have nd := sc_law_some_value.nd
  refine D.F.ok sc_law_some_value (fun vs H Q E h => ?_) (fun cdv A outer s H vs Q E hr h => ?_)
  · obtain ⟨r, sc, ns, rfl, _⟩ := h
    rfl
  · obtain ⟨r, sc, ns, rfl, R, q⟩ := h
    have hr1 : Room 1 _ := hr.mono (by decide)
    have hr2 : Room 2 _ := hr.mono (by decide)
    refine ⟨_, pss_cons (ps_set (i := 1) nd rfl (.inl rfl) (pe_call GT hr1 (by rfl) DT.g DT.F.kp DT.b .nil pass0 (pa_cons (pv 0) (pa_cons pe_int pa_nil))))
      (pss_cons (ps_if (pt_cmpR op_lt (pv 1) pe_int (nomark _)) (pss_one (ps_ret (pe_call GS hr (by rfl) DS.g DS.F.kp DS.b .nil pass0 (pa_cons (pv 0) (pa_cons (pe_ix ix_list (pe_lst (pa_cons pe_int (pa_cons pe_int (pa_cons pe_int pa_nil)))) (pv 1) (fun _ _ => rfl)) pa_nil))))) pss_nil)
      (pss_one (ps_ret (pe_ifExp (pt_cmpR op_eq (pv 1) pe_int (nomark _)) pe_non
        (pe_call GG hr2 (by rfl) DG.g DG.F.kp DG.b .nil pass0 (pa_cons (pv 0) (pa_cons (pe_call GP hr2 (by rfl) DP.g DP.F.kp DP.b .nil pass0 (pa_cons (pv 0) (pa_cons (pe_lst (pa_cons pe_int (pa_cons pe_int (pa_cons pe_int (pa_cons (pe_op op_shl pe_int pe_int) pa_nil))))) pa_nil))) pa_nil))))))), ?_⟩
    refine ⟨_, rfl, r, sc, ns, 6, rfl, R, by decide, by decide, fun v H1 v0 v1 R1 k1 => ?_⟩
    obtain ⟨n, rfl⟩ : ∃ n : Nat, v = (n : Int) := ⟨v.toNat, by omega⟩
    refine ⟨_, rfl, _, _, rfl, rfl, _, rfl, ?_⟩
    by_cases c : n < 3
    · rw [decide_eq_true (show (n : Int) < 3 by omega)]
      refine iteT ?_
      refine ⟨_, rfl, (by show 3 ≤ sizeLine; decide), fun p hp => ?_⟩
      have npr : p ≠ r := R1.new hp
      obtain ⟨m, hm, hmb⟩ : ∃ m : Nat, atI [V.int 3, V.int 12, V.int 200] (n : Int) = some (V.int (m : Int)) ∧ m ≤ 200 := by
        rcases (by omega : n = 0 ∨ n = 1 ∨ n = 2) with rfl | rfl | rfl
        · exact ⟨3, by decide, by decide⟩
        · exact ⟨12, by decide, by decide⟩
        · exact ⟨200, by decide, by decide⟩
      refine ⟨_, rfl, p, _, _, _, rfl, rfl, SqL.of upd_same, hm, ?_⟩
      refine ⟨r, sc, ns, m, rfl, R1.same (Same.new hp), by omega, fun l H2 hl hz R2 k2 => ?_⟩
      exact q (.txt l) H2 ⟨hl, by omega⟩ R2 (k1.trans ((Keep.new hp).trans k2))
    · rw [decide_eq_false (show ¬ (n : Int) < 3 by omega)]
      refine iteF ?_
      refine ⟨_, rfl, rfl, _, rfl, ?_⟩
      by_cases c3 : n = 3
      · subst c3
        refine iteT ?_
        exact q .non H1 True.intro R1 k1
      · rw [show (decide (V.int ((n : Nat) : Int) = V.int 3)) = false from decide_eq_false fun e => c3 (by injection e with e; omega)]
        refine iteF ?_
        refine ⟨_, rfl, _, rfl, _, _, rfl, rfl, ⟨by decide, by decide, by decide⟩, (by show 4 ≤ sizeLine; decide), fun p hp => ?_⟩
        have npr : p ≠ r := R1.new hp
        refine ⟨r, sc, ns, p, _, rfl, R1.same (Same.new hp), SqL.of upd_same, npr, by decide, by decide, fun u H2 hu R2 k2 => ?_⟩
        obtain ⟨m, rfl, hmb⟩ : ∃ m : Nat, u = V.int (m : Int) ∧ m ≤ 1099511627776 := by
          rcases List.mem_cons.mp hu with rfl | hu
          · exact ⟨3, rfl, by decide⟩
          rcases List.mem_cons.mp hu with rfl | hu
          · exact ⟨70, rfl, by decide⟩
          rcases List.mem_cons.mp hu with rfl | hu
          · exact ⟨20000, rfl, by decide⟩
          · rw [List.mem_singleton.mp hu]
            exact ⟨1099511627776, by rfl, by decide⟩
        refine ⟨r, sc, ns, m, rfl, R2, hmb, fun i H3 h1 h2 R3 k3 => ?_⟩
        exact q (.int i) H3 ⟨by omega, by omega⟩ R3 (k1.trans ((Keep.new hp).trans (k2.trans k3)))
end
end K19
end
section
namespace K19
open PySem L2 No RZ
/-! ### the words of lines, and what they tell: pure -/
abbrev cl (x : Str) : List Nat := x.cps.toList
def st (l : List Nat) : Str := ⟨l.toArray⟩
theorem cl_st (l : List Nat) : cl (st l) = l := rfl
theorem st_cl (x : Str) : st (cl x) = x := TL.mk_tl x
theorem st_len (l : List Nat) : (st l).length = l.length := by
  show l.toArray.size = l.length
  rw [List.size_toArray]
theorem cl_len (x : Str) : x.length = (cl x).length := TL.len_tl x
theorem st_inj {a b : List Nat} (h : st a = st b) : a = b := by
  have := congrArg cl h
  exact this
theorem cl_inj {x y : Str} (h : cl x = cl y) : x = y := TL.ext_tl h
theorem cl_tx (l : List Nat) : cl (tx l) = l.map sg := rfl
theorem tw_len {p : Nat → Bool} : ∀ {l : List Nat}, (l.takeWhile p).length = l.length → ∀ c, c ∈ l → p c = true
  | [], _, c, hc => (nomatch hc)
  | a :: l, h, c, hc => by
    by_cases e : p a = true
    · rw [List.takeWhile_cons, if_pos e, List.length_cons, List.length_cons] at h
      rcases List.mem_cons.mp hc with rfl | hc
      · exact e
      · exact tw_len (by omega) c hc
    · rw [List.takeWhile_cons, if_neg e] at h
      simp at h
theorem tw_le {p : Nat → Bool} : ∀ (l : List Nat), (l.takeWhile p).length ≤ l.length
  | [] => Nat.le_refl _
  | a :: l => by
    rw [List.takeWhile_cons]
    split
    · have := tw_le (p := p) l
      simp only [List.length_cons]
      omega
    · simp
theorem tw_bad {p : Nat → Bool} : ∀ {l : List Nat}, (l.takeWhile p).length < l.length → ∃ c, c ∈ l.drop (l.takeWhile p).length ∧ p c = false
  | [], h => absurd h (Nat.lt_irrefl _)
  | a :: l, h => by
    by_cases e : p a = true
    · rw [List.takeWhile_cons, if_pos e] at h ⊢
      rw [List.length_cons, List.length_cons] at h
      exact tw_bad (by omega)
    · rw [List.takeWhile_cons, if_neg e]
      exact ⟨a, List.mem_cons_self, by simpa using e⟩
/-- strip leaves nothing of just the signs of a row -/
theorem strip_all (x y : Str) : decide (V.str (Txt.stripChars x y) = V.str "") = (cl x).all y.cps.contains := by
  rw [Bool.eq_iff_iff, decide_eq_true_eq, List.all_eq_true]
  have e0 : Txt.stripChars x y = Builtin.Str.strSub x ((cl x).takeWhile y.cps.contains).length (x.length - (((cl x).drop ((cl x).takeWhile y.cps.contains).length).reverse.takeWhile y.cps.contains).length) := by
    unfold Txt.stripChars
    rw [PySem.W.stripBy_eq]
    rfl
  constructor
  · intro h
    have h : Txt.stripChars x y = Str.ofString "" := V.str.inj h
    rw [e0] at h
    have h2 := congrArg cl h
    have h2 : ((cl x).drop ((cl x).takeWhile y.cps.contains).length).take (x.length - (((cl x).drop ((cl x).takeWhile y.cps.contains).length).reverse.takeWhile y.cps.contains).length - ((cl x).takeWhile y.cps.contains).length) = [] := (TL.tl_strSub x _ _).symm.trans h2
    have hx := cl_len x
    have le1 := tw_le (p := y.cps.contains) (cl x)
    by_cases e : ((cl x).takeWhile y.cps.contains).length = (cl x).length
    · exact tw_len e
    · exfalso
      obtain ⟨c, hc, hb⟩ := tw_bad (p := y.cps.contains) (l := cl x) (by omega)
      have le2 := tw_le (p := y.cps.contains) ((cl x).drop ((cl x).takeWhile y.cps.contains).length).reverse
      have ne2 : (((cl x).drop ((cl x).takeWhile y.cps.contains).length).reverse.takeWhile y.cps.contains).length ≠ ((cl x).drop ((cl x).takeWhile y.cps.contains).length).reverse.length := fun z => by
        have := tw_len z c (List.mem_reverse.mpr hc)
        rw [this] at hb
        cases hb
      have h3 := congrArg List.length h2
      rw [List.length_take, List.length_drop] at h3
      rw [List.length_reverse, List.length_drop] at le2 ne2
      have hl : ([] : List Nat).length = 0 := rfl
      omega
  · intro h
    have e1 : (cl x).takeWhile y.cps.contains = cl x := take_all_good h
    have : Txt.stripChars x y = Str.ofString "" := by
      rw [e0, e1]
      apply cl_inj
      rw [show cl (Builtin.Str.strSub x (cl x).length _) = _ from TL.tl_strSub x _ _, List.drop_of_length_le (Nat.le_refl _), List.take_nil]
      rfl
    rw [this]
def dgsS : Str := "0123456789"
theorem dgs_contains (c : Nat) : dgsS.cps.contains c = decide (48 ≤ c ∧ c ≤ 57) := by
  rw [Bool.eq_iff_iff, decide_eq_true_eq, Array.contains_iff]
  constructor
  · intro h
    have h : c ∈ dgsS.cps.toList := Array.mem_toList_iff.mpr h
    have all : ∀ c, c ∈ dgsS.cps.toList → 48 ≤ c ∧ c ≤ 57 := by decide +kernel
    exact all c h
  · intro h
    have all : ∀ k, k < 10 → (48 + k) ∈ dgsS.cps.toList := by decide +kernel
    have := all (c - 48) (by omega)
    rw [show 48 + (c - 48) = c by omega] at this
    exact Array.mem_toList_iff.mp this
/-- a text of signs, so long -/
def sgOk (s : List Nat) (a b : Nat) : Bool := decide (a ≤ s.length) && (decide (s.length ≤ b) && s.all sgs.cps.contains)
def isDg (c : Nat) : Bool := decide (48 ≤ c ∧ c ≤ 57)
def figs (w : List Nat) : Bool := decide (1 ≤ w.length) && (decide (w.length ≤ 20) && (w.all isDg && (decide (w = [48]) || !decide (w.head? = some 48))))
def cntT (w : List Nat) : Option Nat := if figs w = true then some (NumText.digitsVal w) else none
def txtT (w : List Nat) : Option (List Nat) :=
  if w.length < 2 then none else if w.head? ≠ some 39 then none else if w.getLast? ≠ some 39 then none else
  if sgOk ((w.drop 1).take (w.length - 2)) 0 200 = true then some ((w.drop 1).take (w.length - 2)) else none
def rngT (i : Int) : Option Int := if -1099511627776 ≤ i ∧ i ≤ 1099511627776 then some i else none
def intT (w : List Nat) : Option Int :=
  if w.head? ≠ some 35 then none else
  if w[1]? = some 45 then (match cntT (w.drop 2) with
    | none => none
    | some n => if n = 0 then none else rngT (-(n : Int)))
  else (match cntT (w.drop 1) with
    | none => none
    | some n => rngT (n : Int))
def noneW : List Nat := [110, 111, 110, 101]
def valW (w : List Nat) : Bool := decide (w = noneW) || ((intT w).isSome || (txtT w).isSome)
/-- the end of the word at the head of what is left of a line -/
def wend (r : List Nat) : Option Nat := match r with
  | 39 :: t => if t.idxOf 39 < t.length then some (t.idxOf 39 + 2) else none
  | _ => some (r.idxOf 32)
def wordsF : Nat → List Nat → Option (List (List Nat))
  | 0, _ => none
  | n + 1, r => match wend r with
    | none => none
    | some e => if e = 0 then none else match r.drop e with
      | [] => some [r]
      | c :: r' => if c = 32 then (match wordsF n r' with
          | none => none
          | some ws => some (r.take e :: ws)) else none
def wordsT (l : List Nat) : Option (List (List Nat)) := wordsF (l.length + 1) l
theorem wend_le {r : List Nat} {e : Nat} (h : wend r = some e) : e ≤ r.length := by
  unfold wend at h
  split at h
  · rename_i t
    split at h
    · cases h
      simp only [List.length_cons]
      omega
    · cases h
  · cases h
    exact List.idxOf_le_length
theorem wordsF_more : ∀ {n m : Nat} {r : List Nat}, r.length < n → r.length < m → wordsF n r = wordsF m r
  | 0, _, _, h, _ => absurd h (Nat.not_lt_zero _)
  | _, 0, _, _, h => absurd h (Nat.not_lt_zero _)
  | n + 1, m + 1, r, h1, h2 => by
    unfold wordsF
    cases e : wend r with
    | none => rfl
    | some k =>
      dsimp only
      by_cases k0 : k = 0
      · rw [if_pos k0, if_pos k0]
      · rw [if_neg k0, if_neg k0]
        cases d : r.drop k with
        | nil => rfl
        | cons c r' =>
          dsimp only
          have := congrArg List.length d
          rw [List.length_drop, List.length_cons] at this
          rw [wordsF_more (n := n) (m := m) (r := r') (by omega) (by omega)]
theorem wordsT_step {r : List Nat} {e c : Nat} {r' : List Nat} (h : wend r = some e) (h0 : e ≠ 0) (d : r.drop e = c :: r') : wordsT r = if c = 32 then (match wordsT r' with
    | none => none
    | some ws => some (r.take e :: ws)) else none := by
  have len := congrArg List.length d
  rw [List.length_drop, List.length_cons] at len
  unfold wordsT
  rw [show wordsF (r.length + 1) r = _ from rfl]
  unfold wordsF
  rw [h]
  dsimp only
  rw [if_neg h0, d]
  dsimp only
  rw [wordsF_more (n := r.length) (m := r'.length + 1) (r := r') (by omega) (by omega)]
  rfl
theorem wordsT_end {r : List Nat} {e : Nat} (h : wend r = some e) (h0 : e ≠ 0) (d : r.drop e = []) : wordsT r = some [r] := by
  unfold wordsT wordsF
  rw [h]
  dsimp only
  rw [if_neg h0, d]
theorem wordsT_none {r : List Nat} (h : wend r = none ∨ wend r = some 0) : wordsT r = none := by
  unfold wordsT wordsF
  rcases h with h | h
  · rw [h]
  · rw [h]
    rfl
/-! ### find and startswith at a place -/
theorem from_nat (n i : Nat) (h : i ≤ n) : PySem.fromIndex n (i : Int) = i := by
  unfold PySem.fromIndex
  first
    | (simp; omega)
    | (split <;> simp <;> omega)
    | omega
theorem getD_cl {x : Str} {v : Nat} (h : v < x.length) : (cl x)[v]? = some (x.cps.getD v 0) := PySem.StrLaws.getElem?_of_getD h rfl
/-- the place of a sign behind a place -/
theorem find3_idx (x : Str) (c i : Nat) (hi : i ≤ x.length) : Txt.find3 x ⟨#[c]⟩ (i : Int) = if ((cl x).drop i).idxOf c < ((cl x).drop i).length then ((i + ((cl x).drop i).idxOf c : Nat) : Int) else -1 := by
  have hx := cl_len x
  have hf := from_nat x.length i hi
  rcases PySem.StrLaws.find3_spec x c (i : Int) with ⟨h, hn⟩ | ⟨k, h, h1, h2, h3, hn⟩
  · rw [hf] at hn
    rw [h, if_neg]
    intro lt
    have e := List.getElem_idxOf lt
    rw [List.getElem_drop] at e
    have := hn (i + ((cl x).drop i).idxOf c) (by omega) (by rw [List.length_drop] at lt; omega)
    apply this
    have g := getD_cl (x := x) (v := i + ((cl x).drop i).idxOf c) (by rw [List.length_drop] at lt; omega)
    rw [List.getElem?_eq_getElem (by rw [List.length_drop] at lt; omega)] at g
    rw [← Option.some.inj g]
    exact e
  · rw [hf] at h1 hn
    rw [h]
    have hd : ((cl x).drop i)[k - i]? = some c := by
      rw [List.getElem?_drop, show i + (k - i) = k by omega, getD_cl h2, h3]
    have hlt : k - i < ((cl x).drop i).length := (List.getElem?_eq_some_iff.mp hd).1
    have hmem : c ∈ (cl x).drop i := List.mem_of_getElem? hd
    have lt := List.idxOf_lt_length_of_mem hmem
    rw [if_pos lt]
    have e := List.getElem_idxOf lt
    have le : ((cl x).drop i).idxOf c ≤ k - i := by
      apply Classical.byContradiction
      intro hc
      have hh := List.not_of_lt_findIdx (p := (· == c)) (xs := (cl x).drop i) (i := k - i) (by show k - i < ((cl x).drop i).idxOf c; omega)
      rw [(List.getElem?_eq_some_iff.mp hd).2] at hh
      simp at hh
    have ge : ¬ (((cl x).drop i).idxOf c < k - i) := fun hc => by
      have := hn (i + ((cl x).drop i).idxOf c) (by omega) (by omega)
      apply this
      have g := getD_cl (x := x) (v := i + ((cl x).drop i).idxOf c) (by omega)
      rw [List.getElem?_eq_getElem (by rw [List.length_drop] at lt; omega)] at g
      rw [← Option.some.inj g]
      rw [List.getElem_drop] at e
      exact e
    omega
theorem starts3_head (x : Str) (c i : Nat) (hi : i ≤ x.length) : Txt.startswith3 x ⟨#[c]⟩ (i : Int) = decide (((cl x).drop i).head? = some c) := by
  have hf := from_nat x.length i hi
  unfold Txt.startswith3
  rw [hf, Bool.eq_iff_iff, decide_eq_true_eq, List.head?_drop, Bool.and_eq_true, decide_eq_true_eq]
  exact PySem.StrLaws.subAt_one x c i
theorem cutS_nn (x : Str) (a b : Nat) : cutS x (some (a : Int)) (some (b : Int)) = st (((cl x).drop (min a x.length)).take (min b x.length - min a x.length)) := by
  unfold cutS
  rw [HT.sIx_nat, HT.sIx_nat]
  rfl
theorem cutS_n (x : Str) (a : Nat) : cutS x (some (a : Int)) none = st ((cl x).drop a) := by
  unfold cutS
  rw [HT.sIx_nat, HT.sIx_none]
  show st (((cl x).drop (min a x.length)).take (x.length - min a x.length)) = _
  congr 1
  have hx := cl_len x
  rw [List.take_of_length_le (by rw [List.length_drop]; omega)]
  by_cases h : a ≤ x.length
  · rw [Nat.min_eq_left h]
  · rw [Nat.min_eq_right (by omega), List.drop_of_length_le (by omega), List.drop_of_length_le (by omega)]
end K19
end
section
namespace K19
open PySem L2 No RZ
/-! ### the checks, of values of any kind -/
theorem retF {te : TE} {D : Ends} {σ : L2.St} {H : Hp} (h : te σ H D.rt) : tRet te D σ H := h
theorem iteFe {b : Bool} {A B : Prop} (e : b = false) (h : B) : if b = true then A else B := by
  rw [e, if_neg Bool.false_ne_true]
  exact h
theorem iteTe {b : Bool} {A B : Prop} (e : b = true) (h : A) : if b = true then A else B := by
  rw [e, if_pos rfl]
  exact h
theorem kE {k : Bool → Hp → Prop} {b c : Bool} {H : Hp} (e : b = c) (h : k c H) : k b H := e ▸ h
theorem rtE {Q : VK} {v w : V} {H : Hp} (e : v = w) (h : Q w H) : Q v H := e ▸ h
theorem gnE {i : Nat} {v : V} {σ : L2.St} {H : Hp} {t : TS} {D : Ends} (h : t D (σ.set i (some v)) H) : gName i v σ H (fun σ' H'' => t D σ' H'') := h
theorem nxE {u : TS} {D D' : Ends} {σ : L2.St} {H : Hp} (h : u D σ H) : Ends.nx { nx := u D, rt := D'.rt, bk := D'.bk, ct := D'.ct } σ H := h
def tyN : PyData → String
  | .none => "NoneType"
  | .bool _ => "bool"
  | .int _ => "int"
  | .str _ => "str"
  | .list _ => "list"
  | .tuple _ => "tuple"
  | .dict _ => "dict"
/-- the values that stand in a note's places: texts of signs or one other, numbers, rows of numbers -/
def Fl : PyData → Prop
  | .none => True
  | .bool _ => True
  | .int _ => True
  | .str s => (∃ l, Sgs l ∧ l.length ≤ 10000 ∧ s = tx l) ∨ s = "#"
  | .list ds => ∃ l : List Int, ds = l.map PyData.int ∧ l.length ≤ 10000
  | .tuple ds => ∃ l : List Int, ds = l.map PyData.int ∧ l.length ≤ 10000
  | .dict _ => False
theorem dp_tyB {K : PySem.W.Frag} {H : Hp} {x : V} {d : PyData} (h : Dp K H x d) : TyB K H x (tyN d) := by
  cases h with
  | non => exact .non
  | bl b => exact .bl b
  | int i => exact .int i
  | str s => exact .str s
  | lst h _ => exact .lst h
  | tup h _ => exact .tup h
def btw (d : PyData) (a b : Int) : Bool := match d with
  | .int v => decide (a ≤ v ∧ v ≤ b)
  | _ => false
def sgn (d : PyData) (a b : Nat) : Bool := match d with
  | .str s => decide (a ≤ s.length ∧ s.length ≤ b) && !decide (s = "#")
  | _ => false
def spBtwD (K : PySem.W.Frag) : Sp := fun vs H Q _ => ∃ (x : V) (d : PyData) (a b : Int), vs = [x, .int a, .int b] ∧ Dp K H x d ∧ Q (.bl (btw d a b)) H
def spSgD (K : PySem.W.Frag) : Sp := fun vs H Q _ => ∃ (x : V) (d : PyData) (a b : Nat), vs = [x, .int a, .int b] ∧ Dp K H x d ∧ Fl d ∧ Q (.bl (sgn d a b)) H
def isN : PyData → Bool
  | .none => true
  | _ => false
def valO (d : PyData) : Bool := isN d || btw d (-1099511627776) 1099511627776 || sgn d 0 200
def spIVD (K : PySem.W.Frag) : Sp := fun vs H Q _ => ∃ (x : V) (d : PyData), vs = [x] ∧ Dp K H x d ∧ Fl d ∧ Q (.bl (valO d)) H
theorem hash_strip : Txt.stripChars "#" sgs = "#" := by decide +kernel
section
variable {P : Program} {w : World} {K : PySem.W.Frag} {mg : Str → Option Value} {base : Heap}
theorem ok_btwD {f : Addr} {fd : FuncData} (D : Dfn K mg "is_between" sis_between pis_between f fd) (B : Bi mg) : FnOk P w K mg base CX0 1 f fd pis_between (spBtwD K) := by
  have nd := scis_between.nd
  refine D.F.ok scis_between (fun vs H Q E h => ?_) (fun cdv A outer s H vs Q E hr h => ?_)
  · obtain ⟨x, d, a, b, rfl, _⟩ := h
    rfl
  · obtain ⟨x, d, a, b, rfl, hx, q⟩ := h
    refine ⟨_, pss_one (ps_ret (pe_and (pe_cmpR op_isTyB (pe_callTy call_type1 (by rfl) B.type (by decide +kernel) (pa_cons (pv 0) pa_nil)) (pe_bltn (v := .ty "int") (by rfl) B.int (by decide +kernel) rfl) (nomark _))
      (pe_one (pe_chain op_le op_le (pv 1) (pv 0) (pv 2))))), ?_⟩
    refine ⟨_, rfl, _, _, rfl, dp_tyB hx, _, _, rfl, rfl, _, rfl, ?_⟩
    cases hx with
    | int v =>
      refine iteT ?_
      refine ⟨_, rfl, _, rfl, _, _, rfl, rfl, _, rfl, ?_⟩
      have q : Q (.bl (decide (a ≤ v ∧ v ≤ b))) H := q
      by_cases h1 : a ≤ v
      · rw [decide_eq_true h1]
        refine iteT ?_
        refine ⟨_, rfl, _, _, rfl, rfl, ?_⟩
        have e : decide (v ≤ b) = decide (a ≤ v ∧ v ≤ b) := by
          rw [decide_eq_decide]
          exact ⟨fun h => ⟨h1, h⟩, fun h => h.2⟩
        show Q (V.bl (decide (v ≤ b))) H
        rw [e]
        exact q
      · rw [decide_eq_false h1]
        refine iteF ?_
        have e : decide (a ≤ v ∧ v ≤ b) = false := decide_eq_false fun h => h1 h.1
        rw [e] at q
        exact q
    | non => exact iteF q
    | bl b => exact iteF q
    | str s => exact iteF q
    | lst _ _ => exact iteF q
    | tup _ _ => exact iteF q
theorem ok_sgD {f : Addr} {fd : FuncData} (D : Dfn K mg "is_signs" sis_signs pis_signs f fd) (T : Sx mg) : FnOk P w K mg base CX0 1 f fd pis_signs (spSgD K) := by
  have nd := scis_signs.nd
  have B := T.b
  obtain ⟨ts, hsg⟩ := T.sg
  refine D.F.ok scis_signs (fun vs H Q E h => ?_) (fun cdv A outer s H vs Q E hr h => ?_)
  · obtain ⟨x, d, a, b, rfl, _⟩ := h
    rfl
  · obtain ⟨x, d, a, b, rfl, hx, hfl, q⟩ := h
    refine ⟨_, pss_one (ps_ret (pe_and (pe_cmpR op_isTyB (pe_callTy call_type1 (by rfl) B.type (by decide +kernel) (pa_cons (pv 0) pa_nil)) (pe_bltn (v := .ty "str") (by rfl) B.str (by decide +kernel) rfl) (nomark _))
      (pe_and (pe_chain op_le op_le (pv 1) (pe_callB call_len_str (by rfl) B.len PySem.boot_len (pa_cons (pv 0) pa_nil)) (pv 2))
      (pe_one (pe_cmpR op_eq (pe_bm PySem.F.plainAttrs_str PySem.F.slot_str_strip PySem.F.type_str_strip mt_stripChars (pv 0) (pa_cons (pe_glob (v := .str sgs) rfl hsg ⟨_, rfl⟩) pa_nil)) pe_str (nomark _)))))), ?_⟩
    refine ⟨_, rfl, _, _, rfl, dp_tyB hx, _, _, rfl, rfl, _, rfl, ?_⟩
    cases hx with
    | str s =>
      refine iteT ?_
      have hlen : s.length ≤ sizeLine := by
        rcases hfl with ⟨l, _, h2, rfl⟩ | rfl
        · rw [tx_len]; exact Nat.le_trans h2 (by decide)
        · decide
      have q : Q (.bl (decide (a ≤ s.length ∧ s.length ≤ b) && !decide (s = "#"))) H := q
      refine ⟨_, rfl, _, rfl, s, rfl, hlen, _, _, rfl, rfl, _, rfl, ?_⟩
      by_cases h1 : a ≤ s.length
      · rw [decide_eq_true (show ((a : Nat) : Int) ≤ (s.length : Int) by omega)]
        refine iteT ?_
        refine ⟨_, rfl, _, _, rfl, rfl, _, rfl, ?_⟩
        by_cases h2 : s.length ≤ b
        · rw [decide_eq_true (show (s.length : Int) ≤ ((b : Nat) : Int) by omega)]
          refine iteT ?_
          refine ⟨_, rfl, rfl, s, sgs, rfl, rfl, hlen, rfl, ?_⟩
          rw [decide_eq_true (show a ≤ s.length ∧ s.length ≤ b from ⟨h1, h2⟩), Bool.true_and] at q
          have e : decide (V.str (Txt.stripChars s sgs) = V.str "") = !decide (s = "#") := by
            rcases hfl with ⟨l, h3, _, rfl⟩ | rfl
            · rw [strip_tx h3, decide_eq_true (show V.str (Str.ofString "") = V.str "" from rfl)]
              have ne : tx l ≠ "#" := fun e => by
                cases l with
                | nil => exact absurd (congrArg (fun s : Str => s.cps.size) e) (by decide +kernel)
                | cons k t =>
                  have e2 := congrArg (fun s : Str => s.cps.toList[0]?) e
                  have e3 : sg k = 35 := by
                    have : (tx (k :: t)).cps.toList[0]? = some (sg k) := by simp [tx]
                    exact Option.some.inj (this.symm.trans e2)
                  have all : ∀ k, k < 77 → sg k ≠ 35 := by decide +kernel
                  exact all k (h3 k List.mem_cons_self) e3
              rw [decide_eq_false ne]
              rfl
            · rw [hash_strip]
              decide +kernel
          show Q (.bl (decide (V.str (Txt.stripChars s sgs) = V.str ""))) H
          rw [e]
          exact q
        · rw [decide_eq_false (show ¬ (s.length : Int) ≤ ((b : Nat) : Int) by omega)]
          refine iteF ?_
          rw [decide_eq_false (show ¬ (a ≤ s.length ∧ s.length ≤ b) from fun h => h2 h.2), Bool.false_and] at q
          exact q
      · rw [decide_eq_false (show ¬ ((a : Nat) : Int) ≤ (s.length : Int) by omega)]
        rw [decide_eq_false (show ¬ (a ≤ s.length ∧ s.length ≤ b) from fun h => h1 h.1), Bool.false_and] at q
        exact ⟨_, rfl, iteF q⟩
    | non => exact iteF q
    | bl b => exact iteF q
    | int s => exact iteF q
    | lst _ _ => exact iteF q
    | tup _ _ => exact iteF q
theorem ok_ivD {f fB fS : Addr} {fd fdB fdS : FuncData} (D : Dfn K mg "is_value" sis_value pis_value f fd) (T : Sx mg) (DB : Dfn K mg "is_between" sis_between pis_between fB fdB) (DS : Dfn K mg "is_signs" sis_signs pis_signs fS fdS) : FnOk P w K mg base CX0 2 f fd pis_value (spIVD K) := by
  have nd := scis_value.nd
  obtain ⟨t2, hms⟩ := T.ms
  obtain ⟨t3, hmi⟩ := T.mi
  have GB : FnOk P w K mg base CX0 1 fB fdB pis_between (spBtwD K) := ok_btwD DB T.b
  have GS : FnOk P w K mg base CX0 1 fS fdS pis_signs (spSgD K) := ok_sgD DS T
  refine D.F.ok scis_value (fun vs H Q E h => ?_) (fun cdv A outer s H vs Q E hr h => ?_)
  · obtain ⟨x, d, rfl, _⟩ := h
    rfl
  · obtain ⟨x, d, rfl, hx, hfl, q⟩ := h
    refine ⟨_, pss_cons (ps_if (PW.pt (pw_or (pt_cmpR op_isN (pv 0) pe_non (nomark _)) (pw_or1 (pt_val (pe_call GB hr (by rfl) DB.g DB.F.kp DB.b .nil pass0 (pa_cons (pv 0) (pa_cons (pe_un un_neg (pe_glob (v := .int 1099511627776) rfl hmi ⟨_, rfl⟩)) (pa_cons (pe_glob (v := .int 1099511627776) rfl hmi ⟨_, rfl⟩) pa_nil)))))))) (pss_one (ps_ret pe_bl)) pss_nil)
      (pss_one (ps_ret (pe_call GS hr (by rfl) DS.g DS.F.kp DS.b .nil pass0 (pa_cons (pv 0) (pa_cons pe_int (pa_cons (pe_glob (v := .int 200) rfl hms ⟨_, rfl⟩) pa_nil)))))), ?_⟩
    refine ⟨_, rfl, ?_⟩
    have rest : isN d = false → ∀ R : Prop, (btw d (-1099511627776) 1099511627776 = true → Q (.bl true) H → R) → (btw d (-1099511627776) 1099511627776 = false → Q (.bl (sgn d 0 200)) H → R) → R := fun hn R r1 r2 => by
      have e1 : valO d = (btw d (-1099511627776) 1099511627776 || sgn d 0 200) := by
        unfold valO
        rw [hn, Bool.false_or]
      rw [e1] at q
      cases e : btw d (-1099511627776) 1099511627776 with
      | true =>
        rw [e] at q
        exact r1 e q
      | false =>
        rw [e] at q
        exact r2 e q
    by_cases hn : isN d = true
    · cases hx with
      | non =>
        have q : Q (.bl true) H := q
        refine ⟨rfl, _, rfl, ?_⟩
        refine iteT ?_
        refine iteT ?_
        exact q
      | bl b => cases hn
      | int b => cases hn
      | str b => cases hn
      | lst _ _ => cases hn
      | tup _ _ => cases hn
    · have hn : isN d = false := by simpa using hn
      have hxn : x ≠ .non := fun e => by
        subst e
        cases hx
        cases hn
      refine ⟨rfl, _, rfl, ?_⟩
      refine iteFe (decide_eq_false hxn) ?_
      refine ⟨_, rfl, _, rfl, x, d, -1099511627776, 1099511627776, rfl, hx, _, rfl, ?_⟩
      refine rest hn _ (fun e q => ?_) fun e q => ?_
      · rw [e]
        refine iteT ?_
        exact q
      · rw [e]
        refine iteF ?_
        exact ⟨_, rfl, x, d, 0, 200, rfl, hx, hfl, q⟩
end
/-! ### the words of lines: the program -/
theorem q39 : ("'" : Str) = ⟨#[39]⟩ := by decide +kernel
theorem q32 : (" " : Str) = ⟨#[32]⟩ := by decide +kernel
theorem q35 : ("#" : Str) = ⟨#[35]⟩ := by decide +kernel
theorem q3545 : ("#-" : Str) = st [35, 45] := by decide +kernel
theorem starts1 (x : Str) (c : Nat) : Txt.startswith x ⟨#[c]⟩ = decide ((cl x).head? = some c) := by
  unfold Txt.startswith
  rw [Bool.eq_iff_iff, decide_eq_true_eq, List.head?_eq_getElem?, Bool.and_eq_true, decide_eq_true_eq]
  exact PySem.StrLaws.subAt_one x c 0
theorem starts2 (x : Str) : Txt.startswith x (st [35, 45]) = (decide ((cl x).head? = some 35) && decide ((cl x)[1]? = some 45)) := by
  unfold Txt.startswith
  have h := TL.at_iff (x := x) (y := st [35, 45]) (by show [35, 45] ≠ []; simp) 0
  unfold PySem.StrLaws.At at h
  rw [Bool.eq_iff_iff, Bool.and_eq_true, decide_eq_true_eq, h, Bool.and_eq_true, decide_eq_true_eq, decide_eq_true_eq, List.drop_zero]
  show TL.pre [35, 45] (cl x) = true ↔ _
  unfold TL.pre
  match cl x with
  | [] => simp
  | [a] => simp
  | a :: b :: l => simp
theorem at_0 {x : Str} {c : Nat} {t : List Nat} (h : cl x = c :: t) : atI x.cps.toList 0 = some c := by
  rw [show x.cps.toList = c :: t from h]
  exact atI_nat (j := 0) rfl
theorem at_neg1 {α : Type} {xs : List α} {y : α} (h : xs[xs.length - 1]? = some y) : atI xs (-1) = some y := by
  have hl : xs.length - 1 < xs.length := (List.getElem?_eq_some_iff.mp h).1
  unfold atI ixN
  rw [if_neg (by omega), if_pos (by omega)]
  show xs[((-1 : Int) + (xs.length : Int)).toNat]? = some y
  rw [show ((-1 : Int) + (xs.length : Int)).toNat = xs.length - 1 by omega]
  exact h
theorem setF {i : Nat} {v : V} {σ : L2.St} {H : Hp} {t : TS} {D D' : Ends} (h : t D (σ.set i (some v)) H) : gName i v σ H { nx := t D, rt := D'.rt, bk := D'.bk, ct := D'.ct : Ends }.nx := h
def vN : Option Nat → V
  | none => .non
  | some n => .int (n : Int)
def vI : Option Int → V
  | none => .non
  | some i => .int i
def vT : Option (List Nat) → V
  | none => .non
  | some l => .str (st l)
theorem len_line {x : Str} (h : x.length ≤ 100000) : x.length ≤ sizeLine := Nat.le_trans h (by decide)
def sgD (d : PyData) (a b : Nat) : Bool := match d with
  | .str s => sgOk (cl s) a b
  | _ => false
def SL (d : PyData) : Prop := ∀ s, d = .str s → s.length ≤ 100000
def spSgA (K : PySem.W.Frag) : Sp := fun vs H Q _ => ∃ (x : V) (d : PyData) (a b : Nat), vs = [x, .int a, .int b] ∧ Dp K H x d ∧ SL d ∧ Q (.bl (sgD d a b)) H
def valD (d : PyData) : Bool := isN d || btw d (-1099511627776) 1099511627776 || sgD d 0 200
def spIVA (K : PySem.W.Frag) : Sp := fun vs H Q _ => ∃ (x : V) (d : PyData), vs = [x] ∧ Dp K H x d ∧ SL d ∧ Q (.bl (valD d)) H
abbrev sis_figures : Stmt := top 15
abbrev nis_figures : List Str := ["word", "most"]
abbrev pis_figures : List Str := ["word", "most"]
theorem scis_figures : FnScope nis_figures pis_figures (defScope sis_figures) := ⟨rfl, rfl, rfl, by decide +kernel, rfl, by decide +kernel, by decide +kernel⟩
def spFig : Sp := fun vs H Q _ => ∃ x : Str, vs = [.str x, .int 20] ∧ x.length ≤ 100000 ∧ Q (.bl (figs (cl x))) H
abbrev scount_told : Stmt := top 18
abbrev ncount_told : List Str := ["word"]
abbrev pcount_told : List Str := ["word"]
theorem sccount_told : FnScope ncount_told pcount_told (defScope scount_told) := ⟨rfl, rfl, rfl, by decide +kernel, rfl, by decide +kernel, by decide +kernel⟩
def spCntT : Sp := fun vs H Q _ => ∃ x : Str, vs = [.str x] ∧ x.length ≤ 100000 ∧ Q (vN (cntT (cl x))) H
abbrev stext_told : Stmt := top 19
abbrev ntext_told : List Str := ["word", "text"]
abbrev ptext_told : List Str := ["word"]
theorem sctext_told : FnScope ntext_told ptext_told (defScope stext_told) := ⟨rfl, rfl, rfl, by decide +kernel, rfl, by decide +kernel, by decide +kernel⟩
def spTxtT : Sp := fun vs H Q _ => ∃ x : Str, vs = [.str x] ∧ x.length ≤ 100000 ∧ Q (vT (txtT (cl x))) H
abbrev sinteger_told : Stmt := top 20
abbrev ninteger_told : List Str := ["word", "below", "number"]
abbrev pinteger_told : List Str := ["word"]
theorem scinteger_told : FnScope ninteger_told pinteger_told (defScope sinteger_told) := ⟨rfl, rfl, rfl, by decide +kernel, rfl, by decide +kernel, by decide +kernel⟩
def spIntT : Sp := fun vs H Q _ => ∃ x : Str, vs = [.str x] ∧ x.length ≤ 100000 ∧ Q (vI (intT (cl x))) H
abbrev sword_end : Stmt := top 16
abbrev nword_end : List Str := ["line", "at", "close", "space"]
abbrev pword_end : List Str := ["line", "at"]
theorem scword_end : FnScope nword_end pword_end (defScope sword_end) := ⟨rfl, rfl, rfl, by decide +kernel, rfl, by decide +kernel, by decide +kernel⟩
def spWE : Sp := fun vs H Q _ => ∃ (x : Str) (i : Nat), vs = [.str x, .int i] ∧ i ≤ x.length ∧ x.length ≤ 100000 ∧ Q (vN ((wend ((cl x).drop i)).map (i + ·))) H
abbrev swords_of : Stmt := top 17
abbrev nwords_of : List Str := ["line", "words", "at", "end"]
abbrev pwords_of : List Str := ["line"]
theorem scwords_of : FnScope nwords_of pwords_of (defScope swords_of) := ⟨rfl, rfl, rfl, by decide +kernel, rfl, by decide +kernel, by decide +kernel⟩
def wV (ws : List (List Nat)) : List V := ws.map fun w => V.str (st w)
def spWO : Sp := fun vs H Q _ => ∃ x : Str, vs = [.str x] ∧ x.length ≤ 100000 ∧ (wordsT (cl x) = none → ∀ H', Same H H' → Q .non H') ∧
  (∀ ws, wordsT (cl x) = some ws → ∀ (l : Addr) (H' : Hp), Same H H' → H l = none → H' l = some (.lst (wV ws)) → Q (.ref l) H')
section
variable {P : Program} {w : World} {K : PySem.W.Frag} {mg : Str → Option Value} {base : Heap}
theorem ok_sgA {f : Addr} {fd : FuncData} (D : Dfn K mg "is_signs" sis_signs pis_signs f fd) (T : Sx mg) : FnOk P w K mg base CX0 1 f fd pis_signs (spSgA K) := by
  have nd := scis_signs.nd
  have B := T.b
  obtain ⟨ts, hsg⟩ := T.sg
  refine D.F.ok scis_signs (fun vs H Q E h => ?_) (fun cdv A outer s H vs Q E hr h => ?_)
  · obtain ⟨x, d, a, b, rfl, _⟩ := h
    rfl
  · obtain ⟨x, d, a, b, rfl, hx, hfl, q⟩ := h
    refine ⟨_, pss_one (ps_ret (pe_and (pe_cmpR op_isTyB (pe_callTy call_type1 (by rfl) B.type (by decide +kernel) (pa_cons (pv 0) pa_nil)) (pe_bltn (v := .ty "str") (by rfl) B.str (by decide +kernel) rfl) (nomark _))
      (pe_and (pe_chain op_le op_le (pv 1) (pe_callB call_len_str (by rfl) B.len PySem.boot_len (pa_cons (pv 0) pa_nil)) (pv 2))
      (pe_one (pe_cmpR op_eq (pe_bm PySem.F.plainAttrs_str PySem.F.slot_str_strip PySem.F.type_str_strip mt_stripChars (pv 0) (pa_cons (pe_glob (v := .str sgs) rfl hsg ⟨_, rfl⟩) pa_nil)) pe_str (nomark _)))))), ?_⟩
    refine ⟨_, rfl, _, _, rfl, dp_tyB hx, _, _, rfl, rfl, _, rfl, ?_⟩
    cases hx with
    | str s =>
      refine iteT ?_
      have hlen := len_line (hfl s rfl)
      have q : Q (.bl (sgOk (cl s) a b)) H := q
      unfold sgOk at q
      rw [← cl_len] at q
      refine ⟨_, rfl, _, rfl, s, rfl, hlen, _, _, rfl, rfl, _, rfl, ?_⟩
      by_cases h1 : a ≤ s.length
      · rw [decide_eq_true (show ((a : Nat) : Int) ≤ (s.length : Int) by omega)]
        rw [decide_eq_true h1, Bool.true_and] at q
        refine iteT ?_
        refine ⟨_, rfl, _, _, rfl, rfl, _, rfl, ?_⟩
        by_cases h2 : s.length ≤ b
        · rw [decide_eq_true (show (s.length : Int) ≤ ((b : Nat) : Int) by omega)]
          rw [decide_eq_true h2, Bool.true_and] at q
          refine iteT ?_
          refine ⟨_, rfl, rfl, s, sgs, rfl, rfl, hlen, rfl, ?_⟩
          rw [strip_all]
          exact q
        · rw [decide_eq_false (show ¬ (s.length : Int) ≤ ((b : Nat) : Int) by omega)]
          rw [decide_eq_false h2, Bool.false_and] at q
          exact iteF q
      · rw [decide_eq_false (show ¬ ((a : Nat) : Int) ≤ (s.length : Int) by omega)]
        rw [decide_eq_false h1, Bool.false_and] at q
        exact ⟨_, rfl, iteF q⟩
    | non => exact iteF q
    | bl b => exact iteF q
    | int s => exact iteF q
    | lst _ _ => exact iteF q
    | tup _ _ => exact iteF q
theorem ok_ivA {f fB fS : Addr} {fd fdB fdS : FuncData} (D : Dfn K mg "is_value" sis_value pis_value f fd) (T : Sx mg) (DB : Dfn K mg "is_between" sis_between pis_between fB fdB) (DS : Dfn K mg "is_signs" sis_signs pis_signs fS fdS) : FnOk P w K mg base CX0 2 f fd pis_value (spIVA K) := by
  have nd := scis_value.nd
  obtain ⟨t2, hms⟩ := T.ms
  obtain ⟨t3, hmi⟩ := T.mi
  have GB : FnOk P w K mg base CX0 1 fB fdB pis_between (spBtwD K) := ok_btwD DB T.b
  have GS : FnOk P w K mg base CX0 1 fS fdS pis_signs (spSgA K) := ok_sgA DS T
  refine D.F.ok scis_value (fun vs H Q E h => ?_) (fun cdv A outer s H vs Q E hr h => ?_)
  · obtain ⟨x, d, rfl, _⟩ := h
    rfl
  · obtain ⟨x, d, rfl, hx, hfl, q⟩ := h
    refine ⟨_, pss_cons (ps_if (PW.pt (pw_or (pt_cmpR op_isN (pv 0) pe_non (nomark _)) (pw_or1 (pt_val (pe_call GB hr (by rfl) DB.g DB.F.kp DB.b .nil pass0 (pa_cons (pv 0) (pa_cons (pe_un un_neg (pe_glob (v := .int 1099511627776) rfl hmi ⟨_, rfl⟩)) (pa_cons (pe_glob (v := .int 1099511627776) rfl hmi ⟨_, rfl⟩) pa_nil)))))))) (pss_one (ps_ret pe_bl)) pss_nil)
      (pss_one (ps_ret (pe_call GS hr (by rfl) DS.g DS.F.kp DS.b .nil pass0 (pa_cons (pv 0) (pa_cons pe_int (pa_cons (pe_glob (v := .int 200) rfl hms ⟨_, rfl⟩) pa_nil)))))), ?_⟩
    refine ⟨_, rfl, ?_⟩
    have e : valD d = (isN d || (btw d (-1099511627776) 1099511627776 || sgD d 0 200)) := Bool.or_assoc ..
    rw [e] at q
    cases hn : isN d with
    | true =>
      rw [hn, Bool.true_or] at q
      cases hx with
      | non =>
        refine ⟨rfl, _, rfl, ?_⟩
        refine iteT ?_
        refine iteT ?_
        exact q
      | int i => cases hn
      | bl b => cases hn
      | str s => cases hn
      | lst _ _ => cases hn
      | tup _ _ => cases hn
    | false =>
      rw [hn, Bool.false_or] at q
      have nn : x ≠ .non := fun e => by
        subst e
        cases hx
        cases hn
      refine ⟨rfl, _, rfl, ?_⟩
      rw [decide_eq_false nn]
      refine iteF ?_
      refine ⟨_, rfl, _, rfl, x, d, -1099511627776, 1099511627776, rfl, hx, _, rfl, ?_⟩
      cases hb : btw d (-1099511627776) 1099511627776 with
      | true =>
        rw [hb, Bool.true_or] at q
        refine iteT ?_
        exact q
      | false =>
        rw [hb, Bool.false_or] at q
        refine iteF ?_
        exact ⟨_, rfl, x, d, 0, 200, rfl, hx, hfl, q⟩
theorem ok_fig {f : Addr} {fd : FuncData} (D : Dfn K mg "is_figures" sis_figures pis_figures f fd) (B : Bi mg) (FG : ∃ t, mg "FIGURES" = some (.str dgsS t)) : FnOk P w K mg base CX0 1 f fd pis_figures spFig := by
  have nd := scis_figures.nd
  obtain ⟨t, hfg⟩ := FG
  refine D.F.ok scis_figures (fun vs H Q E h => ?_) (fun cdv A outer s H vs Q E hr h => ?_)
  · obtain ⟨x, rfl, _⟩ := h
    rfl
  · obtain ⟨x, rfl, hl, q⟩ := h
    have hlen := len_line hl
    refine ⟨_, pss_cons (ps_if (PW.pt (pw_or (pt_not (pt_chain op_le op_le pe_int (pe_callB call_len_str (by rfl) B.len PySem.boot_len (pa_cons (pv 0) pa_nil)) (pv 1)))
        (pw_or1 (pt_cmpR op_ne (pe_bm PySem.F.plainAttrs_str PySem.F.slot_str_strip PySem.F.type_str_strip mt_stripChars (pv 0) (pa_cons (pe_glob (v := .str dgsS) rfl hfg ⟨_, rfl⟩) pa_nil)) pe_str (nomark _))))) (pss_one (ps_ret pe_bl)) pss_nil)
      (pss_one (ps_ret (pe_or (pe_cmpR op_eq (pv 0) pe_str (nomark _)) (pe_one (pe_cmpR op_ne (pe_ix ix_str (pv 0) pe_int (fun _ _ => rfl)) pe_str (nomark _)))))), ?_⟩
    unfold figs at q
    rw [← cl_len] at q
    refine ⟨_, rfl, x, rfl, hlen, _, _, rfl, rfl, _, rfl, ?_⟩
    by_cases h1 : 1 ≤ x.length
    · rw [decide_eq_true (show (1 : Int) ≤ (x.length : Int) by omega)]
      rw [decide_eq_true h1, Bool.true_and] at q
      refine iteT ?_
      refine ⟨_, rfl, _, _, rfl, rfl, _, rfl, ?_⟩
      by_cases h2 : x.length ≤ 20
      · rw [decide_eq_true (show (x.length : Int) ≤ 20 by omega)]
        rw [decide_eq_true h2, Bool.true_and] at q
        refine iteF ?_
        refine ⟨_, rfl, rfl, x, dgsS, rfl, rfl, hlen, rfl, _, rfl, ?_⟩
        have e : (!decide (V.str (Txt.stripChars x dgsS) = V.str "")) = !(cl x).all isDg := by
          rw [strip_all]
          congr 2
          funext c
          exact dgs_contains c
        rw [e]
        cases ha : (cl x).all isDg with
        | false =>
          rw [ha, Bool.false_and] at q
          exact iteT q
        | true =>
          rw [ha, Bool.true_and] at q
          refine iteF ?_
          refine ⟨_, rfl, rfl, _, rfl, ?_⟩
          have e0 : decide (V.str x = V.str "0") = decide (cl x = [48]) := by
            rw [decide_eq_decide]
            constructor
            · intro h
              rw [V.str.inj h]
              decide +kernel
            · intro h
              rw [← st_cl x, h]
              decide +kernel
          rw [e0]
          by_cases h3 : cl x = [48]
          · rw [decide_eq_true h3, Bool.true_or] at q
            rw [decide_eq_true h3]
            exact iteT q
          · rw [decide_eq_false h3, Bool.false_or] at q
            rw [decide_eq_false h3]
            refine iteF ?_
            obtain ⟨c, t, hc⟩ : ∃ c t, cl x = c :: t := by
              cases hx : cl x with
              | nil => rw [cl_len, hx] at h1; exact absurd h1 (by decide)
              | cons c t => exact ⟨c, t, rfl⟩
            refine ⟨_, rfl, x, 0, c, rfl, rfl, hlen, at_0 hc, rfl, ?_⟩
            have e1 : (!decide (V.str ⟨#[c]⟩ = V.str "0")) = !decide ((cl x).head? = some 48) := by
              congr 1
              rw [hc, decide_eq_decide]
              constructor
              · intro h
                have := congrArg cl (V.str.inj h)
                have e2 : cl "0" = [48] := by decide +kernel
                rw [e2] at this
                rw [show c = 48 from (List.cons.inj this).1]
                rfl
              · intro h
                rw [show c = 48 from Option.some.inj h]
                decide +kernel
            rw [← e1] at q
            exact q
      · rw [decide_eq_false (show ¬ (x.length : Int) ≤ 20 by omega)]
        rw [decide_eq_false h2, Bool.false_and] at q
        refine iteT ?_
        exact iteT q
    · rw [decide_eq_false (show ¬ (1 : Int) ≤ (x.length : Int) by omega)]
      rw [decide_eq_false h1, Bool.false_and] at q
      refine iteF ?_
      exact ⟨_, rfl, iteT (iteT q)⟩
theorem figs_all {l : List Nat} (h : figs l = true) : NumText.AllDigits l ∧ l ≠ [] ∧ l.length ≤ 20 := by
  unfold figs at h
  rw [Bool.and_eq_true, Bool.and_eq_true, Bool.and_eq_true, decide_eq_true_eq, decide_eq_true_eq, List.all_eq_true] at h
  refine ⟨fun c hc => ?_, fun e => ?_, h.2.1⟩
  · have := h.2.2.1 c hc
    unfold isDg at this
    exact of_decide_eq_true this
  · rw [e] at h
    exact absurd h.1 (by decide)
theorem ok_cntT {f fF : Addr} {fd fdF : FuncData} (D : Dfn K mg "count_told" scount_told pcount_told f fd) (B : Bi mg) (FG : ∃ t, mg "FIGURES" = some (.str dgsS t)) (MF : ∃ t, mg "MOST_FIGURES" = some (.int 20 t)) (DF : Dfn K mg "is_figures" sis_figures pis_figures fF fdF) : FnOk P w K mg base CX0 2 f fd pcount_told spCntT := by
  have nd := sccount_told.nd
  have GF : FnOk P w K mg base CX0 1 fF fdF pis_figures spFig := ok_fig DF B FG
  obtain ⟨t, hmf⟩ := MF
  refine D.F.ok sccount_told (fun vs H Q E h => ?_) (fun cdv A outer s H vs Q E hr h => ?_)
  · obtain ⟨x, rfl, _⟩ := h
    rfl
  · obtain ⟨x, rfl, hl, q⟩ := h
    refine ⟨_, pss_one (ps_ret (pe_ifExp (pt_val (pe_call GF hr (by rfl) DF.g DF.F.kp DF.b .nil pass0 (pa_cons (pv 0) (pa_cons (pe_glob (v := .int 20) rfl hmf ⟨_, rfl⟩) pa_nil)))) (pe_callTy call_int_str (by rfl) B.int (by decide +kernel) (pa_cons (pv 0) pa_nil)) pe_non)), ?_⟩
    refine ⟨_, rfl, x, rfl, hl, _, rfl, ?_⟩
    unfold cntT at q
    cases e : figs (cl x) with
    | false =>
      rw [e, if_neg Bool.false_ne_true] at q
      exact iteF q
    | true =>
      rw [e, if_pos rfl] at q
      refine iteT ?_
      obtain ⟨h1, h2, h3⟩ := figs_all e
      have hx := cl_len x
      exact ⟨_, rfl, x, _, rfl, intText_digits h1 h2 (by omega), by omega, q⟩
theorem txtT_eq (x : Str) : vT (txtT (cl x)) = if x.length < 2 then V.non else if (cl x).head? ≠ some 39 then V.non else if (cl x).getLast? ≠ some 39 then V.non else if sgOk (((cl x).drop 1).take (x.length - 2)) 0 200 = true then V.str (st (((cl x).drop 1).take (x.length - 2))) else V.non := by
  unfold txtT
  rw [← cl_len]
  split
  · rfl
  · split
    · rfl
    · split
      · rfl
      · split
        · rfl
        · rfl
theorem str1_ne (c : Nat) {y : Str} {d : Nat} (hy : y = ⟨#[d]⟩) : (!decide (V.str ⟨#[c]⟩ = V.str y)) = !decide (c = d) := by
  subst hy
  congr 1
  rw [decide_eq_decide]
  constructor
  · intro h
    have := congrArg cl (V.str.inj h)
    exact (List.cons.inj this).1
  · intro h
    rw [h]
theorem ok_txtT {f fS : Addr} {fd fdS : FuncData} (D : Dfn K mg "text_told" stext_told ptext_told f fd) (T : Sx mg) (DS : Dfn K mg "is_signs" sis_signs pis_signs fS fdS) : FnOk P w K mg base CX0 2 f fd ptext_told spTxtT := by
  have nd := sctext_told.nd
  have B := T.b
  obtain ⟨t2, hms⟩ := T.ms
  have GS : FnOk P w K mg base CX0 1 fS fdS pis_signs (spSgA K) := ok_sgA DS T
  refine D.F.ok sctext_told (fun vs H Q E h => ?_) (fun cdv A outer s H vs Q E hr h => ?_)
  · obtain ⟨x, rfl, _⟩ := h
    rfl
  · obtain ⟨x, rfl, hl, q⟩ := h
    have hlen := len_line hl
    have hx := cl_len x
    refine ⟨_, pss_cons (ps_if (PW.pt (pw_or (pt_cmpR op_lt (pe_callB call_len_str (by rfl) B.len PySem.boot_len (pa_cons (pv 0) pa_nil)) pe_int (nomark _)) (pw_or (pt_cmpR op_ne (pe_ix ix_str (pv 0) pe_int (fun _ _ => rfl)) pe_str (nomark _)) (pw_or1 (pt_cmpR op_ne (pe_ix ix_str (pv 0) (pe_un un_neg pe_int) (fun _ _ => rfl)) pe_str (nomark _)))))) (pss_one (ps_ret pe_non)) pss_nil)
      (pss_cons (ps_set (i := 1) nd rfl (.inl rfl) (pe_slice sl_str (pv 0) (po_some pe_int) (po_some (pe_un un_neg pe_int))))
      (pss_one (ps_ret (pe_ifExp (pt_val (pe_call GS hr (by rfl) DS.g DS.F.kp DS.b .nil pass0 (pa_cons (pv 1) (pa_cons pe_int (pa_cons (pe_glob (v := .int 200) rfl hms ⟨_, rfl⟩) pa_nil))))) (pv 1) pe_non)))), ?_⟩
    rw [txtT_eq] at q
    refine ⟨_, rfl, x, rfl, hlen, _, _, rfl, rfl, _, rfl, ?_⟩
    by_cases h1 : x.length < 2
    · rw [if_pos h1] at q
      rw [decide_eq_true (show (x.length : Int) < 2 by omega)]
      refine iteT ?_
      exact iteT q
    · rw [if_neg h1] at q
      rw [decide_eq_false (show ¬ (x.length : Int) < 2 by omega)]
      refine iteF ?_
      obtain ⟨c, t, hc⟩ : ∃ c t, cl x = c :: t := by
        cases hx' : cl x with
        | nil => rw [hx'] at hx; simp at hx; omega
        | cons c t => exact ⟨c, t, rfl⟩
      refine ⟨_, rfl, x, 0, c, rfl, rfl, hlen, at_0 hc, rfl, _, rfl, ?_⟩
      rw [str1_ne c q39]
      by_cases h2 : c = 39
      · rw [if_neg (by rw [hc, h2]; simp)] at q
        rw [decide_eq_true h2]
        refine iteF ?_
        obtain ⟨z, hz⟩ : ∃ z, (cl x).getLast? = some z := ⟨_, List.getLast?_eq_some_getLast (by rw [hc]; simp)⟩
        have hz2 := hz
        rw [List.getLast?_eq_getElem?] at hz2
        refine ⟨_, rfl, _, rfl, x, -1, z, rfl, rfl, hlen, at_neg1 hz2, rfl, _, rfl, ?_⟩
        rw [str1_ne z q39]
        by_cases h3 : z = 39
        · rw [if_neg (by rw [hz, h3]; simp)] at q
          rw [decide_eq_true h3]
          refine iteF ?_
          refine ⟨_, rfl, _, rfl, _, rfl, _, rfl, x, rfl, hlen, ?_⟩
          have ec : cutS x (some 1) (some (-1)) = st (((cl x).drop 1).take (x.length - 2)) := by
            unfold cutS
            rw [show HT.sIx x.length 0 (some 1) = 1 from (HT.sIx_nat x.length 0 1).trans (Nat.min_eq_left (by omega))]
            rw [show HT.sIx x.length x.length (some (-1)) = x.length - 1 by show (if (-1 : Int) < 0 then ((-1 : Int) + (x.length : Int)).toNat else min (-1 : Int).toNat x.length) = x.length - 1; rw [if_pos (by decide)]; omega]
            rfl
          rw [show cutS x (some 1) (some (-1)) = _ from ec]
          refine setF ?_
          refine ⟨_, rfl, V.str (st (((cl x).drop 1).take (x.length - 2))), .str (st (((cl x).drop 1).take (x.length - 2))), 0, 200, rfl, .str _, fun s hs => ?_, _, rfl, ?_⟩
          · cases hs
            rw [st_len, List.length_take]
            omega
          · cases e : sgOk (((cl x).drop 1).take (x.length - 2)) 0 200 with
            | false =>
              rw [e, if_neg Bool.false_ne_true] at q
              rw [show sgD (.str (st (((cl x).drop 1).take (x.length - 2)))) 0 200 = false from e]
              exact iteF q
            | true =>
              rw [e, if_pos rfl] at q
              rw [show sgD (.str (st (((cl x).drop 1).take (x.length - 2)))) 0 200 = true from e]
              refine iteT ?_
              exact ⟨_, rfl, q⟩
        · rw [if_pos (by rw [hz]; simpa using h3)] at q
          rw [decide_eq_false h3]
          refine iteT ?_
          exact q
      · rw [if_pos (by rw [hc]; simpa using h2)] at q
        rw [decide_eq_false h2]
        refine iteT ?_
        exact iteT q
end
end K19
end
section
namespace K19
open PySem L2 No RZ
section
variable {P : Program} {w : World} {K : PySem.W.Frag} {mg : Str → Option Value} {base : Heap}
theorem cl_drop1 {x : Str} {t : List Nat} {c : Nat} (h : cl x = c :: t) : (cl x).drop 1 = t := by rw [h]; rfl
theorem digitsVal_lt : ∀ (l : List Nat), NumText.AllDigits l → NumText.digitsVal l < 10 ^ l.length := by
  have go : ∀ (l : List Nat) (a : Nat), NumText.AllDigits l → l.foldl (fun acc c => acc * 10 + (c - 48)) a < (a + 1) * 10 ^ l.length := by
    intro l
    induction l with
    | nil => intro a _; simp
    | cons c l ih =>
      intro a h
      have hc := h.head
      have := ih (a * 10 + (c - 48)) h.tail
      rw [List.foldl_cons, List.length_cons, Nat.pow_succ]
      refine Nat.lt_of_lt_of_le this ?_
      rw [Nat.mul_comm (10 ^ l.length) 10, ← Nat.mul_assoc]
      exact Nat.mul_le_mul_right _ (by omega)
  intro l h
  have := go l 0 h
  simpa [NumText.digitsVal] using this
theorem cnt_lt {l : List Nat} {n : Nat} (h : cntT l = some n) : n < 100000000000000000000 := by
  unfold cntT at h
  split at h
  · rename_i e
    obtain ⟨h1, h2, h3⟩ := figs_all e
    have := digitsVal_lt l h1
    rw [Option.some.inj h] at this
    refine Nat.lt_of_lt_of_le this ?_
    exact Nat.le_trans (Nat.pow_le_pow_right (by decide) h3) (by decide)
  · cases h
theorem rng_ret {i : Int} {H : Hp} {Q : VK} (q : Q (vI (rngT i)) H) : if valD (.int i) = true then Q (.int i) H else Q .non H := by
  unfold rngT at q
  have e : valD (.int i) = decide (-1099511627776 ≤ i ∧ i ≤ 1099511627776) := by
    show (false || decide (-1099511627776 ≤ i ∧ i ≤ 1099511627776) || false) = _
    rw [Bool.false_or, Bool.or_false]
  rw [e]
  by_cases h : -1099511627776 ≤ i ∧ i ≤ 1099511627776
  · rw [decide_eq_true h]
    rw [if_pos h] at q
    exact iteT q
  · rw [decide_eq_false h]
    rw [if_neg h] at q
    exact iteF q
theorem ok_intT {f fC fV : Addr} {fd fdC fdV : FuncData} (D : Dfn K mg "integer_told" sinteger_told pinteger_told f fd) (B : Bi mg) (DC : Dfn K mg "count_told" scount_told pcount_told fC fdC) (GC : FnOk P w K mg base CX0 2 fC fdC pcount_told spCntT)
    (DV : Dfn K mg "is_value" sis_value pis_value fV fdV) (GV : FnOk P w K mg base CX0 2 fV fdV pis_value (spIVA K)) : FnOk P w K mg base CX0 3 f fd pinteger_told spIntT := by
  have nd := scinteger_told.nd
  refine D.F.ok scinteger_told (fun vs H Q E h => ?_) (fun cdv A outer s H vs Q E hr h => ?_)
  · obtain ⟨x, rfl, _⟩ := h
    rfl
  · obtain ⟨x, rfl, hl, q⟩ := h
    have hlen := len_line hl
    have hx := cl_len x
    refine ⟨_, pss_cons (ps_if (pt_not (pt_val (pe_bm PySem.F.plainAttrs_str PySem.F.slot_str_startswith PySem.F.type_str_startswith mt_startswith (pv 0) (pa_cons pe_str pa_nil)))) (pss_one (ps_ret pe_non)) pss_nil)
      (pss_cons (ps_set (i := 1) nd rfl (.inl rfl) (pe_bm PySem.F.plainAttrs_str PySem.F.slot_str_startswith PySem.F.type_str_startswith mt_startswith (pv 0) (pa_cons pe_str pa_nil)))
      (pss_cons (ps_set (i := 2) nd rfl (.inl rfl) (pe_call GC hr (by rfl) DC.g DC.F.kp DC.b .nil pass0 (pa_cons (pe_ifExp (pt_val (pv 1)) (pe_slice sl_str (pv 0) (po_some pe_int) po_none) (pe_slice sl_str (pv 0) (po_some pe_int) po_none)) pa_nil)))
      (pss_cons (ps_if (PW.pt (pw_or (pt_cmpR op_isN (pv 2) pe_non (nomark _)) (pw_or1 (PW.pt (pw_and (pt_val (pv 1)) (pw_and1 (pt_cmpR op_eq (pv 2) pe_int (nomark _)))))))) (pss_one (ps_ret pe_non)) pss_nil)
      (pss_cons (ps_set (i := 2) nd rfl (.inl rfl) (pe_ifExp (pt_val (pv 1)) (pe_un un_neg (pv 2)) (pv 2)))
      (pss_one (ps_ret (pe_ifExp (pt_val (pe_call GV hr (by rfl) DV.g DV.F.kp DV.b .nil pass0 (pa_cons (pv 2) pa_nil))) (pv 2) pe_non))))))), ?_⟩
    refine ⟨_, rfl, rfl, x, "#", rfl, rfl, _, rfl, ?_⟩
    rw [q35, starts1]
    unfold intT at q
    by_cases h1 : (cl x).head? = some 35
    · rw [if_neg (by simpa using h1)] at q
      rw [decide_eq_true h1]
      refine iteF ?_
      refine ⟨_, rfl, rfl, x, "#-", rfl, rfl, ?_⟩
      rw [q3545, starts2, decide_eq_true h1, Bool.true_and]
      refine setF ?_
      by_cases h2 : (cl x)[1]? = some 45
      · rw [if_pos h2] at q
        rw [decide_eq_true h2]
        refine ⟨_, rfl, _, rfl, ?_⟩
        refine iteT ?_
        refine ⟨_, rfl, _, rfl, x, rfl, hlen, cutS x (some ((2 : Nat) : Int)) none, rfl, Nat.le_trans (cutS_length _ _ _) hl, ?_⟩
        rw [cutS_n, cl_st]
        refine setF ?_
        cases e : cntT ((cl x).drop 2) with
        | none =>
          rw [e] at q
          refine ⟨_, rfl, rfl, _, rfl, ?_⟩
          refine iteT ?_
          exact iteT q
        | some n =>
          rw [e] at q
          refine ⟨_, rfl, rfl, _, rfl, ?_⟩
          refine iteF ?_
          refine ⟨_, rfl, _, rfl, ?_⟩
          refine iteT ?_
          refine ⟨_, rfl, rfl, _, rfl, ?_⟩
          by_cases h0 : n = 0
          · have q : Q .non H := by
              have q' := q
              simp only [h0, if_true] at q'
              exact q'
            rw [show decide (vN (some n) = V.int 0) = true from decide_eq_true (by rw [h0]; rfl)]
            exact iteT q
          · have q : Q (vI (rngT (-(n : Int)))) H := by
              have q' := q
              simp only [h0, if_false] at q'
              exact q'
            rw [show decide (vN (some n) = V.int 0) = false from decide_eq_false fun e => h0 (by have e : V.int (n : Int) = V.int 0 := e; injection e with e; omega)]
            refine iteF ?_
            refine ⟨_, rfl, _, rfl, ?_⟩
            refine iteT ?_
            refine ⟨_, rfl, _, rfl, ?_⟩
            refine setF ?_
            refine ⟨_, rfl, V.int (-(n : Int)), .int (-(n : Int)), rfl, .int _, (fun s hs => by cases hs), _, rfl, ?_⟩
            have := rng_ret q
            cases hv : valD (.int (-(n : Int))) with
            | true => rw [hv, if_pos rfl] at this; exact iteT ⟨_, rfl, this⟩
            | false => rw [hv, if_neg Bool.false_ne_true] at this; exact iteF this
      · rw [if_neg h2] at q
        rw [decide_eq_false h2]
        refine ⟨_, rfl, _, rfl, ?_⟩
        refine iteF ?_
        refine ⟨_, rfl, _, rfl, x, rfl, hlen, cutS x (some ((1 : Nat) : Int)) none, rfl, Nat.le_trans (cutS_length _ _ _) hl, ?_⟩
        rw [cutS_n, cl_st]
        refine setF ?_
        cases e : cntT ((cl x).drop 1) with
        | none =>
          rw [e] at q
          refine ⟨_, rfl, rfl, _, rfl, ?_⟩
          refine iteT ?_
          exact iteT q
        | some n =>
          rw [e] at q
          refine ⟨_, rfl, rfl, _, rfl, ?_⟩
          refine iteF ?_
          refine ⟨_, rfl, _, rfl, ?_⟩
          refine iteF ?_
          refine iteF ?_
          refine ⟨_, rfl, _, rfl, ?_⟩
          refine iteF ?_
          refine ⟨_, rfl, ?_⟩
          refine setF ?_
          refine ⟨_, rfl, V.int (n : Int), .int (n : Int), rfl, .int _, (fun s hs => by cases hs), _, rfl, ?_⟩
          have := rng_ret q
          cases hv : valD (.int (n : Int)) with
          | true => rw [hv, if_pos rfl] at this; exact iteT ⟨_, rfl, this⟩
          | false => rw [hv, if_neg Bool.false_ne_true] at this; exact iteF this
    · rw [if_pos (by simpa using h1)] at q
      rw [decide_eq_false h1]
      refine iteT ?_
      exact q
theorem ok_we {f : Addr} {fd : FuncData} (D : Dfn K mg "word_end" sword_end pword_end f fd) (B : Bi mg) : FnOk P w K mg base CX0 1 f fd pword_end spWE := by
  have nd := scword_end.nd
  refine D.F.ok scword_end (fun vs H Q E h => ?_) (fun cdv A outer s H vs Q E hr h => ?_)
  · obtain ⟨x, i, rfl, _⟩ := h
    rfl
  · obtain ⟨x, i, rfl, hi, hl, q⟩ := h
    have hlen := len_line hl
    have hx := cl_len x
    refine ⟨_, pss_cons (ps_if (pt_val (pe_bm PySem.F.plainAttrs_str PySem.F.slot_str_startswith PySem.F.type_str_startswith mt_startswith3 (pv 0) (pa_cons pe_str (pa_cons (pv 1) pa_nil))))
        (pss_cons (ps_set (i := 2) nd rfl (.inl rfl) (pe_bm PySem.F.plainAttrs_str PySem.F.slot_str_find PySem.F.type_str_find mt_find3 (pv 0) (pa_cons pe_str (pa_cons (pe_op op_add (pv 1) pe_int) pa_nil))))
        (pss_one (ps_ret (pe_ifExp (pt_cmpR op_ge (pv 2) pe_int (nomark _)) (pe_op op_add (pv 2) pe_int) pe_non)))) pss_nil)
      (pss_cons (ps_set (i := 3) nd rfl (.inl rfl) (pe_bm PySem.F.plainAttrs_str PySem.F.slot_str_find PySem.F.type_str_find mt_find3 (pv 0) (pa_cons pe_str (pa_cons (pv 1) pa_nil))))
      (pss_one (ps_ret (pe_ifExp (pt_cmpR op_ge (pv 3) pe_int (nomark _)) (pv 3) (pe_callB call_len_str (by rfl) B.len PySem.boot_len (pa_cons (pv 0) pa_nil)))))), ?_⟩
    refine ⟨_, rfl, rfl, _, rfl, x, "'", (i : Int), rfl, rfl, _, rfl, ?_⟩
    rw [q39, starts3_head x 39 i hi]
    by_cases h1 : ((cl x).drop i).head? = some 39
    · rw [decide_eq_true h1]
      refine iteT ?_
      have hi1 : i + 1 ≤ x.length := by
        have := List.head?_drop (l := cl x) (i := i) ▸ h1
        have := (List.getElem?_eq_some_iff.mp this).1
        omega
      obtain ⟨t, ht⟩ : ∃ t, (cl x).drop i = 39 :: t := by
        cases e : (cl x).drop i with
        | nil => rw [e] at h1; cases h1
        | cons c t => rw [e] at h1; exact ⟨t, by rw [Option.some.inj h1]⟩
      have ht1 : (cl x).drop (i + 1) = t := by rw [← List.drop_drop, ht]; rfl
      rw [ht] at q
      refine ⟨_, rfl, rfl, _, rfl, _, _, rfl, rfl, x, "'", ((i + 1 : Nat) : Int), rfl, rfl, ?_⟩
      rw [q39, find3_idx x 39 (i + 1) hi1, ht1]
      refine setF ?_
      have q : Q (vN ((if t.idxOf 39 < t.length then some (t.idxOf 39 + 2) else none).map (i + ·))) H := q
      by_cases h2 : t.idxOf 39 < t.length
      · rw [if_pos h2] at q
        rw [if_pos h2]
        refine ⟨_, rfl, _, _, rfl, rfl, _, rfl, ?_⟩
        rw [decide_eq_true (show (0 : Int) ≤ ((i + 1 + t.idxOf 39 : Nat) : Int) by omega)]
        refine iteT ?_
        refine ⟨_, rfl, _, _, rfl, rfl, ?_⟩
        have e : (((i + 1 + t.idxOf 39 : Nat) : Int) + 1) = ((i + (t.idxOf 39 + 2) : Nat) : Int) := by omega
        exact rtE (show _ = V.int ((i + (t.idxOf 39 + 2) : Nat) : Int) from congrArg V.int e) q
      · rw [if_neg h2] at q
        rw [if_neg h2]
        refine ⟨_, rfl, _, _, rfl, rfl, _, rfl, ?_⟩
        refine iteF ?_
        exact q
    · rw [decide_eq_false h1]
      refine iteF ?_
      refine ⟨_, rfl, rfl, _, rfl, x, " ", (i : Int), rfl, rfl, ?_⟩
      rw [q32, find3_idx x 32 i hi]
      refine setF ?_
      have ew : wend ((cl x).drop i) = some (((cl x).drop i).idxOf 32) := by
        unfold wend
        split
        · rename_i t e
          rw [e] at h1
          exact absurd rfl h1
        · rfl
      rw [ew] at q
      by_cases h2 : ((cl x).drop i).idxOf 32 < ((cl x).drop i).length
      · rw [if_pos h2]
        refine ⟨_, rfl, _, _, rfl, rfl, _, rfl, ?_⟩
        rw [decide_eq_true (show (0 : Int) ≤ ((i + ((cl x).drop i).idxOf 32 : Nat) : Int) by omega)]
        refine iteT ?_
        exact ⟨_, rfl, q⟩
      · rw [if_neg h2]
        have le := List.idxOf_le_length (a := 32) (l := (cl x).drop i)
        have ed : ((cl x).drop i).length = x.length - i := by rw [List.length_drop, ← hx]
        refine ⟨_, rfl, _, _, rfl, rfl, _, rfl, ?_⟩
        refine iteF ?_
        refine ⟨_, rfl, x, rfl, hlen, ?_⟩
        have q : Q (.int ((i + ((cl x).drop i).idxOf 32 : Nat) : Int)) H := q
        rw [show i + ((cl x).drop i).idxOf 32 = x.length by omega] at q
        exact q
end
end K19
end
section
namespace K19
open PySem L2 No RZ
def atSlot (σ : L2.St) : Nat := match σ[2]? with
  | some (some (V.int k)) => k.toNat
  | _ => 0
/-! ### words of a line; what tells a value; how a value is told -/
abbrev sis_value_word : Stmt := top 21
abbrev nis_value_word : List Str := ["word"]
abbrev pis_value_word : List Str := ["word"]
theorem scis_value_word : FnScope nis_value_word pis_value_word (defScope sis_value_word) := ⟨rfl, rfl, rfl, by decide +kernel, rfl, by decide +kernel, by decide +kernel⟩
def spIVW : Sp := fun vs H Q _ => ∃ x : Str, vs = [.str x] ∧ x.length ≤ 100000 ∧ Q (.bl (valW (cl x))) H
abbrev svalue_told : Stmt := top 22
abbrev nvalue_told : List Str := ["word"]
abbrev pvalue_told : List Str := ["word"]
theorem scvalue_told : FnScope nvalue_told pvalue_told (defScope svalue_told) := ⟨rfl, rfl, rfl, by decide +kernel, rfl, by decide +kernel, by decide +kernel⟩
def valT (w : List Nat) : V := if w = noneW then .non else if w.head? = some 35 then vI (intT w) else vT (txtT w)
def spVT : Sp := fun vs H Q _ => ∃ x : Str, vs = [.str x] ∧ x.length ≤ 100000 ∧ Q (valT (cl x)) H
abbrev stext_word : Stmt := top 23
abbrev ntext_word : List Str := ["text"]
abbrev ptext_word : List Str := ["text"]
theorem sctext_word : FnScope ntext_word ptext_word (defScope stext_word) := ⟨rfl, rfl, rfl, by decide +kernel, rfl, by decide +kernel, by decide +kernel⟩
def txtW (l : List Nat) : List Nat := 39 :: (l ++ [39])
def spTW : Sp := fun vs H Q _ => ∃ x : Str, vs = [.str x] ∧ x.length ≤ 100000 ∧ Q (.str (st (txtW (cl x)))) H
abbrev svalue_word : Stmt := top 24
abbrev nvalue_word : List Str := ["value"]
abbrev pvalue_word : List Str := ["value"]
theorem scvalue_word : FnScope nvalue_word pvalue_word (defScope svalue_word) := ⟨rfl, rfl, rfl, by decide +kernel, rfl, by decide +kernel, by decide +kernel⟩
def intL (i : Int) : List Nat := if i < 0 then 45 :: TL.numL (-i).toNat else TL.numL i.toNat
theorem cl_int (i : Int) : cl (Str.ofString (toString i)) = intL i := by
  unfold intL
  cases i with
  | ofNat n =>
    rw [if_neg (by show ¬ ((n : Int) < 0); omega)]
    exact TL.tl_num n
  | negSucc m =>
    rw [if_pos (by omega), show (-(Int.negSucc m)).toNat = m + 1 by omega]
    have h1 : toString (Int.negSucc m) = "-" ++ toString ((m + 1 : Nat) : Int) := rfl
    rw [h1]
    have h2 := TL.tl_ofString ("-" ++ toString ((m + 1 : Nat) : Int))
    have h3 := TL.tl_ofString (toString ((m + 1 : Nat) : Int))
    have h4 := TL.tl_num (m + 1)
    rw [h3] at h4
    refine h2.trans ?_
    rw [String.toList_append, List.map_append, h4]
    rfl
def Vl : PyData → Prop
  | .none => True
  | .int i => -1099511627776 ≤ i ∧ i ≤ 1099511627776
  | .str s => s.length ≤ 10000
  | _ => False
def valWd : PyData → List Nat
  | .none => noneW
  | .int i => 35 :: intL i
  | .str s => txtW (cl s)
  | _ => []
def spVW (K : PySem.W.Frag) : Sp := fun vs H Q _ => ∃ (x : V) (d : PyData), vs = [x] ∧ Dp K H x d ∧ Vl d ∧ Q (.str (st (valWd d))) H
theorem nonW_eq : ("none" : Str) = st noneW := by decide +kernel
theorem str_dec (x : Str) (l : List Nat) : decide (V.str x = V.str (st l)) = decide (cl x = l) := by
  rw [decide_eq_decide]
  constructor
  · intro h
    rw [V.str.inj h, cl_st]
  · intro h
    rw [← st_cl x, h]
theorem small_int {i : Int} (h1 : -1099511627776 ≤ i) (h2 : i ≤ 1099511627776) : i.natAbs.log2 < 1920 := by
  have h2 : i.natAbs < 2 ^ 1920 := Nat.lt_of_lt_of_le (show i.natAbs < 2 ^ 63 by omega) (Nat.pow_le_pow_right (by decide) (by decide))
  by_cases z : i.natAbs = 0
  · rw [z]
    decide
  · exact (Nat.log2_lt z).mpr h2
theorem len_app (a b : Str) : (a ++ b).length = a.length + b.length := by
  rw [cl_len, cl_len a, cl_len b, show cl (a ++ b) = cl a ++ cl b from TL.tl_append a b, List.length_append]
theorem st_app (a b : List Nat) : st a ++ st b = st (a ++ b) := cl_inj (TL.tl_append _ _)
theorem len_numL {n : Nat} (h : n < 10 ^ 20) : (TL.numL n).length ≤ 20 := TL.numL_len (by decide) h
theorem wordsT_wend {r : List Nat} {e : Nat} (h : wend r = some e) (h0 : e ≠ 0) : wordsT r = match r.drop e with
    | [] => some [r]
    | c :: r' => if c = 32 then (match wordsT r' with
      | none => none
      | some ws => some (r.take e :: ws)) else none := by
  cases d : r.drop e with
  | nil => exact wordsT_end h h0 d
  | cons c r' => exact wordsT_step h h0 d
section
variable {P : Program} {w : World} {K : PySem.W.Frag} {mg : Str → Option Value} {base : Heap}
theorem ok_wo {f fW : Addr} {fd fdW : FuncData} (D : Dfn K mg "words_of" swords_of pwords_of f fd) (B : Bi mg) (DW : Dfn K mg "word_end" sword_end pword_end fW fdW) : FnOk P w K mg base CX0 2 f fd pwords_of spWO := by
  have nd := scwords_of.nd
  have GW : FnOk P w K mg base CX0 1 fW fdW pword_end spWE := ok_we DW B
  refine D.F.ok scwords_of (fun vs H Q E h => ?_) (fun cdv A outer s H vs Q E hr h => ?_)
  · obtain ⟨x, rfl, _⟩ := h
    rfl
  · obtain ⟨x, rfl, hl, qn, qs⟩ := h
    have hlen := len_line hl
    have hx := cl_len x
    refine ⟨_, (pss_cons (ps_set (i := 1) nd rfl (.inl rfl) (pe_lst pa_nil))
      (pss_cons (ps_set (i := 2) nd rfl (.inl rfl) pe_int)
      (pss_one (ps_while PassesOwn.never (pt_val pe_bl)
        (pss_cons (ps_set (i := 3) nd rfl (.inl rfl) (pe_call GW hr (by rfl) DW.g DW.F.kp DW.b .nil pass0 (pa_cons (pv 0) (pa_cons (pv 2) pa_nil))))
        (pss_cons (ps_if (PW.pt (pw_or (pt_cmpR op_isN (pv 3) pe_non (nomark _)) (pw_or1 (pt_cmpR op_eq (pv 3) (pv 2) (nomark _))))) (pss_one (ps_ret pe_non)) pss_nil)
        (pss_cons (ps_expr (pe_bm PySem.F.plainAttrs_list PySem.F.slot_list_append PySem.F.type_list_append mt_append (pv 1) (pa_cons (pe_slice sl_str (pv 0) (po_some (pv 2)) (po_some (pv 3))) pa_nil)))
        (pss_cons (ps_if (pt_cmpR op_eq (pv 3) (pe_callB call_len_str (by rfl) B.len PySem.boot_len (pa_cons (pv 0) pa_nil)) (nomark _)) (pss_one (ps_ret (pv 1))) pss_nil)
        (pss_cons (ps_if (pt_cmpR op_ne (pe_ix ix_str (pv 0) (pv 3) (fun _ _ => rfl)) pe_str (nomark _)) (pss_one (ps_ret pe_non)) pss_nil)
        (pss_one (ps_set (i := 2) nd rfl (.inl rfl) (pe_op op_add (pv 3) pe_int)))))))))))), ?_⟩
    refine ⟨(by show 0 ≤ sizeLine; decide), fun l nl => ?_⟩
    refine setF ?_
    refine while_by (fun σ H1 => ∃ (i : Nat) (done : List (List Nat)) (v3 : Option V), σ = [some (.str x), some (.ref l), some (.int (i : Int)), v3] ∧ i ≤ x.length ∧ Same H H1 ∧ H1 l = some (.lst (wV done)) ∧ done.length ≤ i ∧ wordsT (cl x) = (wordsT ((cl x).drop i)).map (done ++ ·))
      (fun (σ : L2.St) (_ : Hp) => x.length + 1 - atSlot σ) ?_ ?_ ?_
    · exact ⟨0, [], none, rfl, Nat.zero_le _, Same.new nl, upd_same, Nat.le_refl _, by
        rw [List.drop_zero]
        cases wordsT (cl x) <;> rfl⟩
    · rintro σ H1 ⟨i, done, v3, rfl, hi, s1, hd, hdl, hw⟩
      have ed : ((cl x).drop i).length = x.length - i := by rw [List.length_drop, ← hx]
      refine ⟨_, rfl, ?_⟩
      refine iteT ?_
      refine ⟨_, rfl, _, rfl, x, i, rfl, hi, hl, ?_⟩
      cases hwe : wend ((cl x).drop i) with
      | none =>
        refine setF ?_
        refine ⟨_, rfl, rfl, _, rfl, ?_⟩
        refine iteT ?_
        refine iteT ?_
        exact qn (by rw [hw, wordsT_none (.inl hwe)]; rfl) _ s1
      | some e =>
        have hle := wend_le hwe
        rw [show vN (Option.map (fun x => i + x) (some e)) = V.int ((i + e : Nat) : Int) from rfl]
        refine setF ?_
        refine ⟨_, rfl, rfl, _, rfl, ?_⟩
        refine iteF ?_
        refine ⟨_, rfl, _, rfl, rfl, _, rfl, ?_⟩
        by_cases e0 : e = 0
        · subst e0
          rw [show decide (V.int ((i + 0 : Nat) : Int) = V.int (i : Int)) = true from decide_eq_true rfl]
          refine iteT ?_
          exact qn (by rw [hw, wordsT_none (.inr hwe)]; rfl) _ s1
        · rw [show decide (V.int ((i + e : Nat) : Int) = V.int (i : Int)) = false from decide_eq_false fun z => e0 (by
            injection z with z
            omega)]
          refine iteF ?_
          refine ⟨_, rfl, .inl ⟨rfl, _, SqL.of hd⟩, _, rfl, _, rfl, _, rfl, _, rfl, _, rfl, x, rfl, hlen, ?_⟩
          rw [show cutS x (some ((i : Nat) : Int)) (some ((i + e : Nat) : Int)) = st (((cl x).drop i).take e) by rw [cutS_nn, Nat.min_eq_left hi, Nat.min_eq_left (by omega), show i + e - i = e by omega]]
          refine ⟨l, _, _, rfl, rfl, hd, by unfold wV; rw [List.length_map, sizeLine_eq]; omega, ?_⟩
          have s2 : Same H (upd H1 l (.lst (wV done ++ [V.str (st (((cl x).drop i).take e))]))) := fun b o hb => by
            rw [upd_ne (ne_of_none hb nl)]
            exact s1 _ _ hb
          have hd2 : (upd H1 l (.lst (wV done ++ [V.str (st (((cl x).drop i).take e))]))) l = some (.lst (wV (done ++ [((cl x).drop i).take e]))) := by
            rw [upd_same]
            unfold wV
            rw [List.map_append]
            rfl
          generalize upd H1 l (.lst (wV done ++ [V.str (st (((cl x).drop i).take e))])) = H2 at s2 hd2
          have hws := wordsT_wend hwe e0
          refine ⟨_, rfl, _, rfl, x, rfl, hlen, rfl, _, rfl, ?_⟩
          by_cases he : i + e = x.length
          · rw [show decide (V.int ((i + e : Nat) : Int) = V.int (x.length : Int)) = true from decide_eq_true (by rw [he])]
            refine iteT ?_
            have en : ((cl x).drop i).drop e = [] := List.drop_of_length_le (by omega)
            have et : ((cl x).drop i).take e = (cl x).drop i := List.take_of_length_le (by omega)
            rw [en] at hws
            rw [et] at hd2
            refine ⟨_, rfl, ?_⟩
            exact qs (done ++ [(cl x).drop i]) (by rw [hw, hws]; rfl) l H2 s2 nl hd2
          · rw [show decide (V.int ((i + e : Nat) : Int) = V.int (x.length : Int)) = false from decide_eq_false fun z => he (by injection z with z; omega)]
            refine iteF ?_
            obtain ⟨c, r', hc⟩ : ∃ c r', ((cl x).drop i).drop e = c :: r' := by
              cases h : ((cl x).drop i).drop e with
              | nil =>
                have := congrArg List.length h
                rw [List.length_drop, ed] at this
                simp at this
                omega
              | cons c r' => exact ⟨c, r', rfl⟩
            have hc2 : (cl x)[i + e]? = some c := by
              have h1 : (((cl x).drop i).drop e)[0]? = some c := by rw [hc]; rfl
              rw [List.getElem?_drop, List.getElem?_drop] at h1
              exact h1
            rw [hc] at hws
            refine ⟨_, rfl, _, rfl, x, ((i + e : Nat) : Int), c, rfl, rfl, hlen, atI_nat hc2, rfl, _, rfl, ?_⟩
            rw [str1_ne c q32]
            by_cases c0 : c = 32
            · rw [decide_eq_true c0]
              refine iteF ?_
              dsimp only at hws
              rw [if_pos c0] at hws
              refine ⟨_, rfl, _, _, rfl, rfl, ?_⟩
              have er : (cl x).drop (i + e + 1) = r' := by
                rw [← List.drop_drop, ← List.drop_drop, hc]
                rfl
              refine ⟨⟨i + e + 1, done ++ [((cl x).drop i).take e], _, rfl, by omega, s2, hd2, by rw [List.length_append, List.length_singleton]; omega, ?_⟩, ?_⟩
              · rw [hw, hws, er]
                cases wordsT r' with
                | none => rfl
                | some ws => simp
              · show x.length + 1 - (((i + e : Nat) : Int) + 1).toNat < x.length + 1 - ((i : Nat) : Int).toNat
                omega
            · rw [decide_eq_false c0]
              refine iteT ?_
              dsimp only at hws
              rw [if_neg c0] at hws
              exact qn (by rw [hw, hws]; rfl) _ s2
    · rintro σ H1 Q1 Q2 hq ⟨c, e, h⟩
      exact ⟨c, e, hq _ _ h⟩
end
end K19
end
section
namespace K19
open PySem L2 No RZ
section
variable {P : Program} {w : World} {K : PySem.W.Frag} {mg : Str → Option Value} {base : Heap}
theorem intL_len {i : Int} (h1 : -1099511627776 ≤ i) (h2 : i ≤ 1099511627776) : (intL i).length ≤ 21 := by
  unfold intL
  split
  · have := len_numL (n := (-i).toNat) (by omega)
    simp only [List.length_cons]
    omega
  · have := len_numL (n := i.toNat) (by omega)
    omega
theorem vI_non (o : Option Int) : (!decide (vI o = V.non)) = o.isSome := by
  cases o with
  | none => rfl
  | some i => rfl
theorem vT_non (o : Option (List Nat)) : (!decide (vT o = V.non)) = o.isSome := by
  cases o with
  | none => rfl
  | some i => rfl
theorem ok_ivw {f fI fT : Addr} {fd fdI fdT : FuncData} (D : Dfn K mg "is_value_word" sis_value_word pis_value_word f fd) (DI : Dfn K mg "integer_told" sinteger_told pinteger_told fI fdI) (GI : FnOk P w K mg base CX0 3 fI fdI pinteger_told spIntT)
    (DT : Dfn K mg "text_told" stext_told ptext_told fT fdT) (GT : FnOk P w K mg base CX0 2 fT fdT ptext_told spTxtT) : FnOk P w K mg base CX0 4 f fd pis_value_word spIVW := by
  have nd := scis_value_word.nd
  refine D.F.ok scis_value_word (fun vs H Q E h => ?_) (fun cdv A outer s H vs Q E hr h => ?_)
  · obtain ⟨x, rfl, _⟩ := h
    rfl
  · obtain ⟨x, rfl, hl, q⟩ := h
    have hr2 : Room 2 _ := hr.mono (by decide)
    refine ⟨_, pss_one (ps_ret (pe_or (pe_cmpR op_eq (pv 0) pe_str (nomark _)) (pe_or (pe_cmpR op_notN (pe_call GI hr (by rfl) DI.g DI.F.kp DI.b .nil pass0 (pa_cons (pv 0) pa_nil)) pe_non (nomark _)) (pe_one (pe_cmpR op_notN (pe_call GT hr2 (by rfl) DT.g DT.F.kp DT.b .nil pass0 (pa_cons (pv 0) pa_nil)) pe_non (nomark _)))))), ?_⟩
    unfold valW at q
    refine ⟨_, rfl, rfl, _, rfl, ?_⟩
    rw [nonW_eq, str_dec]
    cases h1 : decide (cl x = noneW) with
    | true =>
      rw [h1, Bool.true_or] at q
      exact iteT q
    | false =>
      rw [h1, Bool.false_or] at q
      refine iteF ?_
      refine ⟨_, rfl, x, rfl, hl, rfl, ?_⟩
      rw [vI_non]
      refine ⟨_, rfl, ?_⟩
      cases h2 : (intT (cl x)).isSome with
      | true =>
        rw [h2, Bool.true_or] at q
        exact iteT q
      | false =>
        rw [h2, Bool.false_or] at q
        refine iteF ?_
        refine ⟨_, rfl, x, rfl, hl, rfl, ?_⟩
        rw [vT_non]
        exact q
theorem ok_vt {f fI fT : Addr} {fd fdI fdT : FuncData} (D : Dfn K mg "value_told" svalue_told pvalue_told f fd) (DI : Dfn K mg "integer_told" sinteger_told pinteger_told fI fdI) (GI : FnOk P w K mg base CX0 3 fI fdI pinteger_told spIntT)
    (DT : Dfn K mg "text_told" stext_told ptext_told fT fdT) (GT : FnOk P w K mg base CX0 2 fT fdT ptext_told spTxtT) : FnOk P w K mg base CX0 4 f fd pvalue_told spVT := by
  have nd := scvalue_told.nd
  refine D.F.ok scvalue_told (fun vs H Q E h => ?_) (fun cdv A outer s H vs Q E hr h => ?_)
  · obtain ⟨x, rfl, _⟩ := h
    rfl
  · obtain ⟨x, rfl, hl, q⟩ := h
    have hr2 : Room 2 _ := hr.mono (by decide)
    refine ⟨_, pss_cons (ps_if (pt_cmpR op_eq (pv 0) pe_str (nomark _)) (pss_one (ps_ret pe_non)) pss_nil)
      (pss_one (ps_ret (pe_ifExp (pt_val (pe_bm PySem.F.plainAttrs_str PySem.F.slot_str_startswith PySem.F.type_str_startswith mt_startswith (pv 0) (pa_cons pe_str pa_nil))) (pe_call GI hr (by rfl) DI.g DI.F.kp DI.b .nil pass0 (pa_cons (pv 0) pa_nil)) (pe_call GT hr2 (by rfl) DT.g DT.F.kp DT.b .nil pass0 (pa_cons (pv 0) pa_nil))))), ?_⟩
    unfold valT at q
    refine ⟨_, rfl, rfl, _, rfl, ?_⟩
    rw [nonW_eq, str_dec]
    by_cases h1 : cl x = noneW
    · rw [if_pos h1] at q
      rw [decide_eq_true h1]
      exact iteT q
    · rw [if_neg h1] at q
      rw [decide_eq_false h1]
      refine iteF ?_
      refine ⟨_, rfl, rfl, x, "#", rfl, rfl, _, rfl, ?_⟩
      rw [q35, starts1]
      by_cases h2 : (cl x).head? = some 35
      · rw [if_pos h2] at q
        rw [decide_eq_true h2]
        refine iteT ?_
        exact ⟨_, rfl, x, rfl, hl, q⟩
      · rw [if_neg h2] at q
        rw [decide_eq_false h2]
        refine iteF ?_
        exact ⟨_, rfl, x, rfl, hl, q⟩
theorem ok_tw {f : Addr} {fd : FuncData} (D : Dfn K mg "text_word" stext_word ptext_word f fd) : FnOk P w K mg base CX0 1 f fd ptext_word spTW := by
  have nd := sctext_word.nd
  refine D.F.ok sctext_word (fun vs H Q E h => ?_) (fun cdv A outer s H vs Q E hr h => ?_)
  · obtain ⟨x, rfl, _⟩ := h
    rfl
  · obtain ⟨x, rfl, hl, q⟩ := h
    refine ⟨_, pss_one (ps_ret (pe_joined (.cons pe_str (.cons (pe_fmt (pv 0)) (.cons pe_str .nil))))), ?_⟩
    have e1 : (Str.empty ++ ("'" : Str)) = st [39] := by decide +kernel
    refine ⟨"'", rfl, (by rw [e1]; decide), ?_⟩
    refine ⟨_, rfl, .inl ⟨x, rfl, len_line hl, x, rfl, ?_, ?_⟩⟩
    · rw [e1, len_app, st_len]
      exact Nat.le_trans (Nat.add_le_add_left hl _) (by decide)
    · refine ⟨"'", rfl, ?_, ?_⟩
      · rw [len_app, e1, len_app, st_len, q39]
        exact Nat.le_trans (Nat.add_le_add_right (Nat.add_le_add_left hl _) _) (by decide)
      · have e2 : (Str.empty ++ ("'" : Str)) ++ x ++ ("'" : Str) = st (txtW (cl x)) := by
          rw [e1, show x = st (cl x) from (st_cl x).symm, st_app, show ("'" : Str) = st [39] by decide +kernel, st_app, cl_st]
          rfl
        rw [e2]
        exact q
theorem ok_vw {f fT : Addr} {fd fdT : FuncData} (D : Dfn K mg "value_word" svalue_word pvalue_word f fd) (B : Bi mg) (DT : Dfn K mg "text_word" stext_word ptext_word fT fdT) : FnOk P w K mg base CX0 2 f fd pvalue_word (spVW K) := by
  have nd := scvalue_word.nd
  have GT : FnOk P w K mg base CX0 1 fT fdT ptext_word spTW := ok_tw DT
  refine D.F.ok scvalue_word (fun vs H Q E h => ?_) (fun cdv A outer s H vs Q E hr h => ?_)
  · obtain ⟨x, d, rfl, _⟩ := h
    rfl
  · obtain ⟨x, d, rfl, hx, hv, q⟩ := h
    refine ⟨_, pss_cons (ps_if (pt_cmpR op_isN (pv 0) pe_non (nomark _)) (pss_one (ps_ret pe_str)) pss_nil)
      (pss_cons (ps_if (pt_cmpR op_isTyB (pe_callTy call_type1 (by rfl) B.type (by decide +kernel) (pa_cons (pv 0) pa_nil)) (pe_bltn (v := .ty "str") (by rfl) B.str (by decide +kernel) rfl) (nomark _)) (pss_one (ps_ret (pe_call GT hr (by rfl) DT.g DT.F.kp DT.b .nil pass0 (pa_cons (pv 0) pa_nil)))) pss_nil)
      (pss_one (ps_ret (pe_op op_add_str pe_str (pe_callTy call_str_int (by rfl) B.str (by decide +kernel) (pa_cons (pv 0) pa_nil)))))), ?_⟩
    cases hx with
    | non =>
      refine ⟨_, rfl, rfl, _, rfl, ?_⟩
      refine iteT ?_
      have q : Q (.str (st noneW)) H := q
      rw [← nonW_eq] at q
      exact q
    | int i =>
      refine ⟨_, rfl, rfl, _, rfl, ?_⟩
      refine iteF ?_
      refine ⟨_, rfl, _, _, rfl, .int i, _, _, rfl, rfl, _, rfl, ?_⟩
      refine iteF ?_
      have hv : -1099511627776 ≤ i ∧ i ≤ 1099511627776 := hv
      refine ⟨_, rfl, i, rfl, small_int hv.1 hv.2, ?_⟩
      refine ⟨_, _, rfl, rfl, ?_, ?_⟩
      · have h1 := intL_len hv.1 hv.2
        rw [cl_len (Str.ofString (toString i)), cl_int]
        have h2 : ("#" : Str).length = 1 := by decide +kernel
        rw [h2]
        exact Nat.le_trans (Nat.add_le_add_left h1 1) (by decide)
      have e : ("#" : Str) ++ Str.ofString (toString i) = st (35 :: intL i) := by
        apply cl_inj
        rw [show cl (("#" : Str) ++ Str.ofString (toString i)) = cl "#" ++ cl (Str.ofString (toString i)) from TL.tl_append _ _, cl_int]
        rfl
      have q : Q (.str (st (35 :: intL i))) H := q
      rw [← e] at q
      exact q
    | str s =>
      refine ⟨_, rfl, rfl, _, rfl, ?_⟩
      refine iteF ?_
      refine ⟨_, rfl, _, _, rfl, .str s, _, _, rfl, rfl, _, rfl, ?_⟩
      refine iteT ?_
      exact ⟨_, rfl, s, rfl, Nat.le_trans hv (by decide), q⟩
    | bl b => exact hv.elim
    | lst _ _ => exact hv.elim
    | tup _ _ => exact hv.elim
end
end K19
end
section
namespace K19
open PySem L2 No RZ
/-! ### steps: pure -/
inductive Kd where
  | c
  | k
  | v
def Kd.s : Kd → Str
  | .c => "count"
  | .k => "key"
  | .v => "value"
def formsL : List (Str × List Kd) := [("write", [.c, .k, .v]), ("show", [.c, .k]), ("notes", [.c]), ("tick", [.c]), ("fall", [.c]), ("cut", [.c, .c]), ("heal", [.c, .c]), ("lose", [.c]), ("double", [.c]), ("spoil", [.c, .c, .c]), ("deliver", [.c]), ("flush", []), ("settle", [.c]), ("flight", []), ("alike", [])]
def formOf (z : Str) : Option (List Kd) := (formsL.find? fun p => decide (p.1 = z)).map (·.2)
def cntD (d : PyData) : Bool := btw d 0 1048576
def partD : Kd → PyData → Bool
  | .c, d => cntD d
  | .k, d => sgD d 1 40
  | .v, d => valD d
def pairD : PyData → Bool
  | .tuple [a, b] => cntD a && cntD b
  | _ => false
def wsD : List PyData → Bool
  | [_, n, .tuple ls] => cntD n && ls.all pairD
  | _ => false
def stepD : PyData → Bool
  | .tuple (.str z :: r) => if z = "world" then wsD (.str z :: r) else (match formOf z with
    | none => false
    | some f => decide (r.length = f.length) && (f.zip r).all fun p => partD p.1 p.2)
  | _ => false
def isWd : PyData → Bool
  | .tuple (.str z :: _) => decide (z = "world")
  | _ => false
/-- the first that cannot stand, from a place on -/
def fbS : Nat → List PyData → Option Nat
  | _, [] => none
  | i, d :: r => if (!stepD d || (isWd d != decide (i = 0))) = true then some i else fbS (i + 1) r
/-- what check_steps raises: nothing, or an error without an index, or one with it -/
def csO : PyData → Option (Option Nat)
  | .tuple ds => if 1 ≤ ds.length ∧ ds.length ≤ 200 then (fbS 0 ds).map some else some none
  | _ => some none
/-- the words of a step -/
def intD : PyData → Int
  | .int i => i
  | _ => 0
def partW : Kd → PyData → List Nat
  | .c, d => intL (intD d)
  | .k, .str s => txtW (cl s)
  | .k, _ => []
  | .v, d => valWd d
def pairW : PyData → List Nat
  | .tuple [a, b] => intL (intD a) ++ 45 :: intL (intD b)
  | _ => []
def wordsD : PyData → List (List Nat)
  | .tuple (.str z :: r) => if z = "world" then (match r with
      | [n, .tuple ls] => cl z :: intL (intD n) :: ls.map pairW
      | _ => []) else cl z :: List.zipWith partW ((formOf z).getD []) r
  | _ => []
def lineD (d : PyData) : List Nat := TL.joinL [32] (wordsD d)
/-- what a line tells -/
def fl : V → PyData
  | .int i => .int i
  | .str s => .str s
  | _ => .none
def partWd : Kd → List Nat → Bool
  | .c, l => (match cntT l with
    | none => false
    | some n => decide (n ≤ 1048576))
  | .k, l => (match txtT l with
    | none => false
    | some t => sgOk t 1 40)
  | .v, l => valW l
def partTv : Kd → List Nat → V
  | .c, l => vN (cntT l)
  | .k, l => vT (txtT l)
  | .v, l => valT l
def linkTd (l : List Nat) : Option PyData :=
  let ab := match TL.par [45] [] l with
    | some (a, b) => (cntT a, cntT b)
    | none => (cntT l, none)
  match ab with
  | (some a, some b) => if a ≤ 1048576 ∧ b ≤ 1048576 then some (.tuple [.int (a : Int), .int (b : Int)]) else none
  | _ => none
def linksTd : List (List Nat) → Option (List PyData)
  | [] => some []
  | l :: r => match linkTd l with
    | none => none
    | some d => (match linksTd r with
      | none => none
      | some ds => some (d :: ds))
def worldTd : List (List Nat) → Option PyData
  | w0 :: n :: r => if partWd .c n = true then (match linksTd r with
    | none => none
    | some ds => some (.tuple [.str "world", fl (vN (cntT n)), .tuple ds])) else none
  | _ => none
def stepTd (l : List Nat) : Option PyData := match wordsT l with
  | none => none
  | some [] => none
  | some (w0 :: r) => if st w0 = "world" then worldTd (w0 :: r) else match formOf (st w0) with
    | none => none
    | some f => if r.length = f.length ∧ (f.zip r).all (fun p => partWd p.1 p.2) = true then some (.tuple (.str (st w0) :: (List.zipWith partTv f r).map fl)) else none
/-- what the lines tell from a place on: the steps, or the place of the first line that cannot stand -/
def rdF : Nat → List (List Nat) → Except Nat (List PyData)
  | _, [] => .ok []
  | i, l :: r => match stepTd l with
    | none => .error i
    | some d => if (decide (i = 200) || (isWd d != decide (i = 0))) = true then .error i else match rdF (i + 1) r with
      | .error k => .error k
      | .ok ds => .ok (d :: ds)
/-! ### a step that is told is read again -/
def Wd (l : List Nat) : Prop := (l ≠ [] ∧ 32 ∉ l ∧ l.head? ≠ some 39) ∨ ∃ t, l = txtW t ∧ 39 ∉ t
theorem idxOf_app {a : Nat} {l m : List Nat} (h : a ∉ l) : (l ++ a :: m).idxOf a = l.length := by
  rw [List.idxOf_append, if_neg h, List.idxOf_cons_self]
  omega
theorem wend_wd {l m : List Nat} (h : Wd l) : wend (l ++ 32 :: m) = some l.length := by
  rcases h with ⟨h1, h2, h3⟩ | ⟨t, rfl, ht⟩
  · have e : (l ++ 32 :: m).idxOf 32 = l.length := idxOf_app h2
    unfold wend
    split
    · rename_i t e2
      cases l with
      | nil => exact absurd rfl h1
      | cons a l =>
        injection e2 with e2 _
        rw [e2] at h3
        exact absurd rfl h3
    · rw [e]
  · have e : (txtW t ++ 32 :: m) = 39 :: (t ++ 39 :: (32 :: m)) := by unfold txtW; simp
    rw [e]
    have e2 : (t ++ 39 :: (32 :: m)).idxOf 39 = t.length := idxOf_app ht
    show (if (t ++ 39 :: (32 :: m)).idxOf 39 < _ then some ((t ++ 39 :: (32 :: m)).idxOf 39 + 2) else none) = _
    rw [e2, if_pos (by simp)]
    unfold txtW
    simp
theorem wend_last {l : List Nat} (h : Wd l) : wend l = some l.length := by
  rcases h with ⟨h1, h2, h3⟩ | ⟨t, rfl, ht⟩
  · have e : l.idxOf 32 = l.length := List.idxOf_eq_length h2
    unfold wend
    split
    · exact absurd rfl h3
    · rw [e]
  · show (if (t ++ [39]).idxOf 39 < _ then some ((t ++ [39]).idxOf 39 + 2) else none) = _
    have e2 : (t ++ [39]).idxOf 39 = t.length := idxOf_app ht
    rw [e2, if_pos (by simp)]
    unfold txtW
    simp
theorem wd_ne {l : List Nat} (h : Wd l) : l.length ≠ 0 := by
  rcases h with ⟨h1, _⟩ | ⟨t, rfl, _⟩
  · exact fun e => h1 (List.length_eq_zero_iff.mp e)
  · unfold txtW
    simp
theorem words_join : ∀ {ws : List (List Nat)}, ws ≠ [] → (∀ l, l ∈ ws → Wd l) → wordsT (TL.joinL [32] ws) = some ws
  | [], h, _ => absurd rfl h
  | [l], _, h => by
    have hl := h l List.mem_cons_self
    exact wordsT_end (wend_last hl) (wd_ne hl) (List.drop_length ..)
  | l :: m :: r, _, h => by
    have hl := h l List.mem_cons_self
    have ih := words_join (ws := m :: r) (by simp) fun x hx => h x (List.mem_cons_of_mem _ hx)
    show wordsT (l ++ ([32] ++ TL.joinL [32] (m :: r))) = _
    rw [show l ++ ([32] ++ TL.joinL [32] (m :: r)) = l ++ 32 :: TL.joinL [32] (m :: r) from rfl]
    rw [wordsT_step (wend_wd hl) (wd_ne hl) (show (l ++ 32 :: TL.joinL [32] (m :: r)).drop l.length = 32 :: TL.joinL [32] (m :: r) from List.drop_left), if_pos rfl, ih]
    show some (List.take l.length (l ++ _) :: m :: r) = _
    rw [List.take_left]
/-! words of numbers, texts, values -/
theorem numL_head (n : Nat) (h : 0 < n) : (TL.numL n).head? ≠ some 48 := by
  induction n using Nat.strongRecOn with
  | _ n ih =>
    by_cases hn : n < 10
    · rw [TL.numL_lt hn]
      intro e
      have : 48 + n = 48 := Option.some.inj e
      omega
    · rw [TL.numL_step (by omega)]
      have := ih (n / 10) (by omega) (by omega)
      intro e
      apply this
      have ne := TL.numL_ne (n / 10)
      cases hh : TL.numL (n / 10) with
      | nil => exact absurd hh ne
      | cons a l =>
        rw [hh] at e
        exact e
theorem cnt_num {n : Nat} (h : n < 10 ^ 20) : cntT (TL.numL n) = some n := by
  have hd := TL.numL_digits n
  have hl := len_numL h
  have hn := TL.numL_ne n
  have e : figs (TL.numL n) = true := by
    unfold figs
    rw [Bool.and_eq_true, Bool.and_eq_true, Bool.and_eq_true, decide_eq_true_eq, decide_eq_true_eq, List.all_eq_true]
    refine ⟨?_, hl, fun c hc => ?_, ?_⟩
    · cases h2 : TL.numL n with
      | nil => exact absurd h2 hn
      | cons a l => simp
    · unfold isDg
      exact decide_eq_true (hd c hc)
    · rw [Bool.or_eq_true]
      by_cases h0 : n = 0
      · left
        rw [h0]
        decide +kernel
      · right
        rw [decide_eq_false (numL_head n (by omega))]
        rfl
  unfold cntT
  rw [if_pos e, TL.numL_val]
theorem intL_nat (n : Nat) : intL (n : Int) = TL.numL n := by
  unfold intL
  rw [if_neg (by omega), Int.toNat_natCast]
theorem wd_num (n : Nat) : Wd (TL.numL n) := .inl ⟨TL.numL_ne n, TL.numL_free (by omega), fun e => by
  have hd := TL.numL_digits n
  cases h : TL.numL n with
  | nil => rw [h] at e; cases e
  | cons a l =>
    rw [h] at e
    have := hd a (by rw [h]; exact List.mem_cons_self)
    rw [Option.some.inj e] at this
    omega⟩
theorem txt_back {t : List Nat} (h : sgOk t 0 200 = true) : txtT (txtW t) = some t := by
  have hlen : (txtW t).length = t.length + 2 := by unfold txtW; simp
  unfold txtT
  rw [hlen, if_neg (by omega), if_neg (by unfold txtW; simp)]
  have e1 : (txtW t).getLast? = some 39 := by
    unfold txtW
    rw [List.getLast?_cons, List.getLast?_append]
    simp
  rw [if_neg (by rw [e1]; simp)]
  have e2 : ((txtW t).drop 1).take (t.length + 2 - 2) = t := by
    unfold txtW
    rw [List.drop_succ_cons, List.drop_zero, Nat.add_sub_cancel, List.take_left]
  rw [e2, if_pos h]
theorem int_back {i : Int} (h1 : -1099511627776 ≤ i) (h2 : i ≤ 1099511627776) : intT (35 :: intL i) = some i := by
  unfold intT
  rw [if_neg (by simp)]
  unfold intL
  by_cases h0 : i < 0
  · rw [if_pos h0, if_pos (by rfl)]
    have e : (35 :: 45 :: TL.numL (-i).toNat).drop 2 = TL.numL (-i).toNat := rfl
    rw [e, cnt_num (by omega)]
    dsimp only
    rw [if_neg (by omega)]
    unfold rngT
    rw [if_pos (by omega)]
    congr 1
    omega
  · rw [if_neg h0]
    have hd := TL.numL_digits i.toNat
    have ne45 : (35 :: TL.numL i.toNat)[1]? ≠ some 45 := fun e => by
      have e : (TL.numL i.toNat)[0]? = some 45 := e
      have := hd 45 (List.mem_of_getElem? e)
      omega
    rw [if_neg ne45]
    have e : (35 :: TL.numL i.toNat).drop 1 = TL.numL i.toNat := rfl
    rw [e, cnt_num (by omega)]
    dsimp only
    unfold rngT
    rw [if_pos (by omega)]
    congr 1
    omega
theorem all_sgs {l : List Nat} (h : Sgs l) : (l.map sg).all sgs.cps.contains = true := by
  rw [List.all_eq_true]
  intro c hc
  obtain ⟨k, hk, rfl⟩ := List.mem_map.mp hc
  exact sg_in k (h k hk)
theorem sgOk_tx {l : List Nat} {a b : Nat} (h : Sgs l) (h1 : a ≤ l.length) (h2 : l.length ≤ b) : sgOk (cl (tx l)) a b = true := by
  rw [cl_tx]
  unfold sgOk
  rw [List.length_map, decide_eq_true h1, decide_eq_true h2, all_sgs h]
  rfl
theorem sg_no39 : ∀ k, k < 77 → sg k ≠ 39 := by decide +kernel
theorem sg_no10 : ∀ k, k < 77 → sg k ≠ 10 := by decide +kernel
theorem no39 {l : List Nat} (h : Sgs l) : 39 ∉ cl (tx l) := fun hm => by
  rw [cl_tx] at hm
  obtain ⟨k, hk, e⟩ := List.mem_map.mp hm
  exact sg_no39 k (h k hk) e
theorem no10 {l : List Nat} (h : Sgs l) : 10 ∉ cl (tx l) := fun hm => by
  rw [cl_tx] at hm
  obtain ⟨k, hk, e⟩ := List.mem_map.mp hm
  exact sg_no10 k (h k hk) e
def uD : Val → PyData
  | .non => .none
  | .int i => .int i
  | .txt l => .str (tx l)
/-- a good part of a step -/
def GP : Kd → PyData → Prop
  | .c, d => ∃ n : Nat, d = .int (n : Int) ∧ n ≤ 1048576
  | .k, d => ∃ l, d = .str (tx l) ∧ Sgs l ∧ 1 ≤ l.length ∧ l.length ≤ 40
  | .v, d => ∃ u, d = uD u ∧ VOk u
theorem cntD_nat {n : Nat} (h : n ≤ 1048576) : cntD (.int (n : Int)) = true := by
  unfold cntD btw
  exact decide_eq_true ⟨by omega, by omega⟩
theorem valD_ok {u : Val} (h : VOk u) : valD (uD u) = true := by
  unfold valD
  cases u with
  | non => rfl
  | int i =>
    show (false || decide (-1099511627776 ≤ i ∧ i ≤ 1099511627776) || false) = true
    rw [decide_eq_true (show -1099511627776 ≤ i ∧ i ≤ 1099511627776 from h)]
    rfl
  | txt l =>
    show (false || false || sgOk (cl (tx l)) 0 200) = true
    rw [sgOk_tx h.1 (Nat.zero_le _) h.2]
    rfl
theorem gp_d : ∀ {k : Kd} {d : PyData}, GP k d → partD k d = true
  | .c, _, ⟨n, rfl, h⟩ => cntD_nat h
  | .k, _, ⟨l, rfl, h1, h2, h3⟩ => sgOk_tx h1 h2 h3
  | .v, _, ⟨u, rfl, h⟩ => valD_ok h
theorem wd_txt {l : List Nat} (h : Sgs l) : Wd (txtW (cl (tx l))) := .inr ⟨_, rfl, no39 h⟩
theorem wd_int {i : Int} : Wd (35 :: intL i) := .inl ⟨by simp, by
  unfold intL
  intro h
  rcases List.mem_cons.mp h with h | h
  · cases h
  · split at h
    · rcases List.mem_cons.mp h with h | h
      · cases h
      · exact TL.numL_free (by omega) h
    · exact TL.numL_free (by omega) h, by simp⟩
theorem gp_wd : ∀ {k : Kd} {d : PyData}, GP k d → Wd (partW k d)
  | .c, _, ⟨n, rfl, h⟩ => by
    show Wd (intL (n : Int))
    rw [intL_nat]
    exact wd_num n
  | .k, _, ⟨l, rfl, h1, h2, h3⟩ => wd_txt h1
  | .v, _, ⟨.non, rfl, h⟩ => .inl ⟨by decide, by decide, by decide⟩
  | .v, _, ⟨.int i, rfl, h⟩ => wd_int
  | .v, _, ⟨.txt l, rfl, h⟩ => wd_txt h.1
theorem txtW_none (t : List Nat) : txtW t ≠ noneW := fun e => by
  unfold txtW noneW at e
  injection e with e _
  cases e
theorem intW_none (t : List Nat) : 35 :: t ≠ noneW := fun e => by
  unfold noneW at e
  injection e with e _
  cases e
theorem txtW_int (t : List Nat) : intT (txtW t) = none := by
  unfold intT txtW
  rw [if_pos (by simp)]
/-- the word of a good part tells it -/
theorem gp_back : ∀ {k : Kd} {d : PyData}, GP k d → partWd k (partW k d) = true ∧ fl (partTv k (partW k d)) = d
  | .c, _, ⟨n, rfl, h⟩ => by
    have e : cntT (partW .c (.int (n : Int))) = some n := by
      show cntT (intL (n : Int)) = some n
      rw [intL_nat]
      exact cnt_num (by omega)
    dsimp only [partWd, partTv]
    rw [e]
    exact ⟨decide_eq_true h, rfl⟩
  | .k, _, ⟨l, rfl, h1, h2, h3⟩ => by
    have e : txtT (partW .k (.str (tx l))) = some (cl (tx l)) := txt_back (sgOk_tx h1 (Nat.zero_le _) (by omega))
    dsimp only [partWd, partTv]
    rw [e]
    refine ⟨sgOk_tx h1 h2 h3, ?_⟩
    show PyData.str (st (cl (tx l))) = _
    rw [st_cl]
  | .v, _, ⟨.non, rfl, h⟩ => ⟨by decide +kernel, by show fl (valT noneW) = PyData.none; unfold valT; rw [if_pos rfl]; rfl⟩
  | .v, _, ⟨.int i, rfl, h⟩ => by
    have e : intT (partW .v (uD (.int i))) = some i := int_back h.1 h.2
    have ne : partW .v (uD (.int i)) ≠ noneW := intW_none _
    dsimp only [partWd, partTv, valW, valT]
    rw [e, if_neg ne, decide_eq_false ne, if_pos (show (partW .v (uD (.int i))).head? = some 35 from rfl)]
    exact ⟨rfl, rfl⟩
  | .v, _, ⟨.txt l, rfl, h⟩ => by
    have e : txtT (partW .v (uD (.txt l))) = some (cl (tx l)) := txt_back (sgOk_tx h.1 (Nat.zero_le _) h.2)
    have ei : intT (partW .v (uD (.txt l))) = none := txtW_int _
    have ne : partW .v (uD (.txt l)) ≠ noneW := txtW_none _
    dsimp only [partWd, partTv, valW, valT]
    rw [e, ei, if_neg ne, decide_eq_false ne, if_neg (show (partW .v (uD (.txt l))).head? ≠ some 35 from fun z => by cases z)]
    refine ⟨rfl, ?_⟩
    show PyData.str (st (cl (tx l))) = _
    rw [st_cl]
    rfl

/-! ### whole steps -/
def PairN (d : PyData) : Prop := ∃ a b : Nat, d = .tuple [.int (a : Int), .int (b : Int)] ∧ a ≤ 1048576 ∧ b ≤ 1048576
inductive GPs : List Kd → List PyData → Prop
  | nil : GPs [] []
  | cons {k : Kd} {d : PyData} {f : List Kd} {r : List PyData} (h : GP k d) (t : GPs f r) : GPs (k :: f) (d :: r)
inductive GSt : PyData → Prop
  | world {n : Nat} {ls : List PyData} (h : n ≤ 1048576) (hl : ∀ d, d ∈ ls → PairN d) : GSt (.tuple [.str "world", .int (n : Int), .tuple ls])
  | step {z : Str} {f : List Kd} {r : List PyData} (h : formOf z = some f) (t : GPs f r) : GSt (.tuple (.str z :: r))
theorem gps_len : ∀ {f : List Kd} {r : List PyData}, GPs f r → r.length = f.length
  | _, _, .nil => rfl
  | _, _, .cons h t => by rw [List.length_cons, List.length_cons, gps_len t]
theorem gps_ok : ∀ {f : List Kd} {r : List PyData}, GPs f r → (f.zip r).all (fun p => partD p.1 p.2) = true
  | _, _, .nil => rfl
  | _, _, .cons h t => by
    rw [List.zip_cons_cons, List.all_cons, gps_ok t, gp_d h]
    rfl
theorem gps_wd : ∀ {f : List Kd} {r : List PyData}, GPs f r → ∀ l, l ∈ List.zipWith partW f r → Wd l
  | _, _, .nil, l, h => (nomatch h)
  | _, _, .cons h t, l, hl => by
    rw [List.zipWith_cons_cons] at hl
    rcases List.mem_cons.mp hl with rfl | hl
    · exact gp_wd h
    · exact gps_wd t l hl
theorem gps_back : ∀ {f : List Kd} {r : List PyData}, GPs f r → (List.zipWith partW f r).length = f.length ∧ (f.zip (List.zipWith partW f r)).all (fun p => partWd p.1 p.2) = true ∧ (List.zipWith partTv f (List.zipWith partW f r)).map fl = r
  | _, _, .nil => ⟨rfl, rfl, rfl⟩
  | _, _, .cons h t => by
    obtain ⟨h1, h2, h3⟩ := gps_back t
    obtain ⟨g1, g2⟩ := gp_back h
    rw [List.zipWith_cons_cons]
    refine ⟨by rw [List.length_cons, List.length_cons, h1], ?_, ?_⟩
    · rw [List.zip_cons_cons, List.all_cons, h2, g1]
      rfl
    · rw [List.zipWith_cons_cons, List.map_cons, h3, g2]
theorem forms_wd : ∀ p, p ∈ formsL → p.1 ≠ "world" ∧ cl p.1 ≠ [] ∧ 32 ∉ cl p.1 ∧ (cl p.1).head? ≠ some 39 ∧ 10 ∉ cl p.1 ∧ (cl p.1).length ≤ 10 := by decide +kernel
theorem formOf_mem {z : Str} {f : List Kd} (h : formOf z = some f) : (z, f) ∈ formsL := by
  unfold formOf at h
  cases e : formsL.find? fun p => decide (p.1 = z) with
  | none => rw [e] at h; cases h
  | some p =>
    rw [e] at h
    have h1 := List.mem_of_find?_eq_some e
    have h2 : p.1 = z := by simpa using List.find?_some e
    have h3 : p.2 = f := Option.some.inj h
    rw [← h2, ← h3]
    exact h1
theorem pair_wd {d : PyData} (h : PairN d) : Wd (pairW d) := by
  obtain ⟨a, b, rfl, _, _⟩ := h
  show Wd (intL (a : Int) ++ 45 :: intL (b : Int))
  rw [intL_nat, intL_nat]
  refine .inl ⟨by simp, fun hm => ?_, fun e => ?_⟩
  · rcases List.mem_append.mp hm with hm | hm
    · exact TL.numL_free (by omega) hm
    · rcases List.mem_cons.mp hm with hm | hm
      · cases hm
      · exact TL.numL_free (by omega) hm
  · have hd := TL.numL_digits a
    cases h : TL.numL a with
    | nil => exact TL.numL_ne a h
    | cons c l =>
      rw [h] at e
      have := hd c (by rw [h]; exact List.mem_cons_self)
      have e : c = 39 := Option.some.inj e
      omega
theorem pair_back {d : PyData} (h : PairN d) : linkTd (pairW d) = some d := by
  obtain ⟨a, b, rfl, ha, hb⟩ := h
  show linkTd (intL (a : Int) ++ 45 :: intL (b : Int)) = _
  rw [intL_nat, intL_nat]
  unfold linkTd
  have e : TL.par [45] [] (TL.numL a ++ 45 :: TL.numL b) = some (TL.numL a, TL.numL b) := by
    have := TL.par_part1 (s := 45) (S := []) (p := TL.numL a) (rest := TL.numL b) (acc := []) (TL.numL_free (by omega))
    exact this
  rw [e]
  dsimp only
  rw [cnt_num (by omega), cnt_num (by omega)]
  dsimp only
  rw [if_pos ⟨ha, hb⟩]
theorem links_back : ∀ {ls : List PyData}, (∀ d, d ∈ ls → PairN d) → linksTd (ls.map pairW) = some ls
  | [], _ => rfl
  | d :: ls, h => by
    rw [List.map_cons]
    unfold linksTd
    rw [pair_back (h d List.mem_cons_self), links_back fun x hx => h x (List.mem_cons_of_mem _ hx)]
theorem stepD_w {r : List PyData} : stepD (.tuple (.str "world" :: r)) = wsD (.str "world" :: r) := by simp only [stepD, if_true]
theorem wordsD_w {n : PyData} {ls : List PyData} : wordsD (.tuple [.str "world", n, .tuple ls]) = cl "world" :: intL (intD n) :: ls.map pairW := by simp only [wordsD, if_true]
theorem gst_d {d : PyData} (h : GSt d) : stepD d = true := by
  cases h with
  | @world n ls h hl =>
    rw [stepD_w]
    show (cntD (.int (n : Int)) && ls.all pairD) = true
    rw [cntD_nat h, Bool.true_and, List.all_eq_true]
    intro d hd
    obtain ⟨a, b, rfl, ha, hb⟩ := hl d hd
    show (cntD (.int (a : Int)) && cntD (.int (b : Int))) = true
    rw [cntD_nat ha, cntD_nat hb]
    rfl
  | @step z f r h t =>
    have hz := forms_wd _ (formOf_mem h)
    show (if z = "world" then _ else _) = true
    rw [if_neg hz.1, h]
    show (decide (r.length = f.length) && _) = true
    rw [decide_eq_true (gps_len t), gps_ok t]
    rfl
theorem gst_words {d : PyData} (h : GSt d) : wordsD d ≠ [] ∧ (∀ l, l ∈ wordsD d → Wd l) := by
  cases h with
  | @world n ls h hl =>
    have e : wordsD (.tuple [.str "world", .int (n : Int), .tuple ls]) = cl "world" :: intL (n : Int) :: ls.map pairW := wordsD_w
    rw [e]
    refine ⟨by simp, fun l hl' => ?_⟩
    rcases List.mem_cons.mp hl' with rfl | hl'
    · exact .inl (by decide +kernel)
    rcases List.mem_cons.mp hl' with rfl | hl'
    · rw [intL_nat]
      exact wd_num n
    · obtain ⟨d, hd, rfl⟩ := List.mem_map.mp hl'
      exact pair_wd (hl d hd)
  | @step z f r h t =>
    have hz := forms_wd _ (formOf_mem h)
    have e : wordsD (.tuple (.str z :: r)) = cl z :: List.zipWith partW f r := by
      show (if z = "world" then _ else _) = _
      rw [if_neg hz.1, h]
      rfl
    rw [e]
    refine ⟨by simp, fun l hl' => ?_⟩
    rcases List.mem_cons.mp hl' with rfl | hl'
    · exact .inl ⟨hz.2.1, hz.2.2.1, hz.2.2.2.1⟩
    · exact gps_wd t l hl'
/-- there and back -/
theorem step_back {d : PyData} (h : GSt d) : stepTd (lineD d) = some d := by
  obtain ⟨w1, w2⟩ := gst_words h
  unfold stepTd lineD
  rw [words_join w1 w2]
  cases h with
  | @world n ls h hl =>
    have e : wordsD (.tuple [.str "world", .int (n : Int), .tuple ls]) = cl "world" :: intL (n : Int) :: ls.map pairW := wordsD_w
    rw [e]
    dsimp only
    rw [st_cl, if_pos rfl]
    unfold worldTd
    have hc : cntT (intL (n : Int)) = some n := by
      rw [intL_nat]
      exact cnt_num (by omega)
    have hp : partWd .c (intL (n : Int)) = true := by
      dsimp only [partWd]
      rw [hc]
      exact decide_eq_true h
    dsimp only
    rw [if_pos hp, links_back hl, hc]
    rfl
  | @step z f r h t =>
    have hz := forms_wd _ (formOf_mem h)
    have e : wordsD (.tuple (.str z :: r)) = cl z :: List.zipWith partW f r := by
      show (if z = "world" then _ else _) = _
      rw [if_neg hz.1, h]
      rfl
    obtain ⟨b1, b2, b3⟩ := gps_back t
    rw [e]
    dsimp only
    rw [st_cl, if_neg hz.1, h]
    dsimp only
    rw [if_pos ⟨b1, b2⟩, b3]
theorem isWd_step {z : Str} {f : List Kd} {r : List PyData} (h : formOf z = some f) : isWd (.tuple (.str z :: r)) = false := decide_eq_false (forms_wd _ (formOf_mem h)).1
end K19
end
section
/-! for i, x in enumerate(t), t a tuple -/
namespace EnT
open PySem PySem.Spec PyProof.Rows L2
theorem made (l : Addr) (its : Array Value) :
    Meets (Builtin.«enumerate.__new__» ⟨[.type "enumerate", .ref l], []⟩) (fun _ R s => s.heap.IsTuple l its ∧
      R (.ok (.ret (.ref (s.heap.push { cls := .type "tuple_iterator", data := .fields #[.ref l, .int 0 0] }).objs.size)))
        { s with heap := (s.heap.push { cls := .type "tuple_iterator", data := .fields #[.ref l, .int 0 0] }).push { cls := .type "enumerate", data := .fields #[.none, .bool false, .ref s.heap.objs.size, rawInt 0, .none, .none] } }) :=
  .of_wp fun prog w A R s h => by
    obtain ⟨hp, g, d, tk, os⟩ := s
    obtain ⟨h1, h⟩ := h
    have sb := sub_enumerate
    have it : ∀ {A' : Around} {E : Value → Shared → Prop} {Q : Value → Shared → Prop}, Q (.ref hp.objs.size) ⟨hp.push { cls := .type "tuple_iterator", data := .fields #[.ref l, .int 0 0] }, g, d, tk, os⟩ → wpAny (model prog w) A' (pyIter (.ref l)) Q E ⟨hp, g, d, tk, os⟩ :=
      fun q => (begins_tuple l its).iter prog w _ _ ⟨hp, g, d, tk, os⟩ _ h1 q
    wp_walk using it
    refine wpAny_stack_any fun st => wpAny_pure ?_
    split
    · rename_i c _ _ _ _ _
      cases (c == Value.type "enumerate")
      all_goals
        wp_walk using it
        exact ⟨_, rfl, h⟩
    · wp_walk using it
      exact ⟨_, rfl, h⟩
section
variable {prog : Program} {w : World} {A : Around} {E : Value → Shared → Prop} {s : Shared}
theorem called {l : Addr} {its : Array Value} {Q : Value → Shared → Prop} (hT : s.heap.IsTuple l its)
    (h : ∀ h', IsEnum h' (s.heap.objs.size + 1) s.heap.objs.size 0 .none → h'.IsTupleIter s.heap.objs.size l 0 → h'.objs.size = s.heap.objs.size + 2 →
      (∀ b o, s.heap.get? b = some o → h'.get? b = some o) → Q (.ref (s.heap.objs.size + 1)) { s with heap := h' }) : wpAny (model prog w) A (call (.type "enumerate") [.ref l]) Q E s := by
  refine callType_new F.called_enumerate (by decide) (F.typeCall_enumerate_1 _) (F.newCall_enumerate_1 _) (fun obj => F.args_object_init_2 obj _) F.entry_enumerate_new (made l its) ⟨hT, ?_⟩
  have hz : (s.heap.push { cls := .type "tuple_iterator", data := .fields #[.ref l, .int 0 0] }).objs.size = s.heap.objs.size + 1 := Heap.size_push ..
  show _ ∧ _
  rw [hz]
  have he : IsEnum ((s.heap.push { cls := .type "tuple_iterator", data := .fields #[.ref l, .int 0 0] }).push { cls := .type "enumerate", data := .fields #[.none, .bool false, .ref s.heap.objs.size, rawInt 0, .none, .none] }) (s.heap.objs.size + 1) s.heap.objs.size 0 .none := by
    rw [← hz]
    exact Heap.get?_push_size _ rfl
  exact ⟨⟨_, he, rfl⟩, h _ he ⟨_, Heap.get?_push_of_some _ (Heap.get?_push_size _ rfl), rfl, rfl⟩ (by rw [Heap.size_push, hz]) fun b o x => Heap.get?_push_of_some _ (Heap.get?_push_of_some _ x)⟩
end
/-- the tuple at a, each item with its place in a new pair -/
def ItT (K : PySem.W.Frag) (a : Addr) : It :=
  ⟨fun i H => ∃ (xs : List V) (x : V), SqT K H a xs ∧ xs[i]? = some x, fun i H v H' => ∃ T x, v = .ref T ∧ H T = none ∧ H' = upd H T (.tup [.int (i : Nat), x]) ∧ ∀ xs, SqT K H a xs → xs[i]? = some x, fun i H => ∃ xs : List V, SqT K H a xs ∧ xs.length ≤ i⟩
theorem turn {P : Program} {w : World} {K : PySem.W.Frag} {elts : List Expr} {kk : Nat} {tpos : Pos} (a e it : Addr) (hai : a ≠ it) (hae : a ≠ e) (its : Array Value) :
    Turn P w K (.Tuple elts kk tpos) (ItT K a) [e, it] e (fun i h => (∃ old, IsEnum h e it ((i : Nat) : Int) old) ∧ h.IsTupleIter it a i ∧ e ≠ it) where
  mem := by simp
  obj := fun i h st b hb => by
    obtain ⟨⟨old, he⟩, ⟨o, ho, hc, hd⟩, _⟩ := st
    rcases (show b = e ∨ b = it by simpa using hb) with z | z
    · rw [z]; exact ⟨_, he, fun v q => nomatch q⟩
    · rw [z]; exact ⟨o, ho, fun v q => by rw [hd] at q; cases q⟩
  keep := fun i h h' st k => ⟨⟨st.1.choose, k e (by simp) _ st.1.choose_spec⟩, st.2.1.at fun o q => k it (by simp) o q, st.2.2⟩
  item := by
    intro X hP hw hK hc i pins s σ H E I hf st hg
    subst hP hw hK
    obtain ⟨⟨old, he⟩, hit, hne⟩ := st
    obtain ⟨xs, x, hq, hx⟩ := hg
    obtain ⟨ys, rv, p, hz⟩ := I.tuple hq
    obtain ⟨u, hu, ru⟩ := rv.get hx
    have hel : e < s.heap.objs.size := Heap.lt_size he
    have hil : it < s.heap.objs.size := by obtain ⟨_, q, _⟩ := hit; exact Heap.lt_size q
    have hul : i < ys.toArray.size := by
      have := (List.getElem?_eq_some_iff.mp hu).1
      simpa using this
    refine wpAny_pyNext_enum_itemD (Draws.tuple (A := X.A.in1) (show X.A.in1.handled = none from I.ok.hd hc) it a hai ys.toArray) he ⟨hit, p⟩ hul hne (by simp [hne, Ne.symm hae]) fun v h' tk hv ho hst hT hsz hk => ?_
    obtain rfl : v = u := by
      have hv' : ys.toArray[i]? = some v := hv
      rw [List.getElem?_toArray, hu] at hv'
      exact (Option.some.inj hv').symm
    refine ⟨_, rfl, wpAny_letOwnedTupleGo_enum (s := { s with heap := h', toks := tk + 1 }) ho fun h'' he' sb => ?_⟩
    have hT2 : h''.get? s.heap.objs.size = some { cls := .type "tuple", data := .seq #[.int i tk, v] } := (sb.2 _ (Nat.ne_of_gt hel)).trans hT
    have new : ObjOk X.prog X.w (upd H s.heap.objs.size (.tup [.int (i : Nat), x])) h'' s.heap.objs.size (.tup [.int (i : Nat), x]) :=
      ⟨by show 2 ≤ sizeLine; decide, [.int i tk, v], .cons ⟨_, rfl⟩ (.cons ru .nil), ⟨_, hT2, rfl, _, rfl⟩⟩
    have I1 : Inv X pins σ (upd H s.heap.objs.size (.tup [.int (i : Nat), x])) { s with heap := h'', toks := tk + 1 } :=
      I.turnedNew (ch := [e, it]) (fun b ob hb q => (sb.2 b (fun z => hb (by simp [z]))).trans (hk b ob (fun z => hb (by simp [z])) (fun z => hb (by simp [z])) q)) hf (Nat.le_refl _) new
    refine ⟨.ref s.heap.objs.size, _, I1, rfl, ⟨_, x, rfl, I.hok.fresh (Nat.le_refl _), rfl, fun zs hy => by rw [I.tuple_inj hy hq]; exact hx⟩, ⟨⟨v, ?_⟩, hst.1.at fun o q => (sb.2 it (Ne.symm hne)).trans q, hne⟩, fun b hb => ?_⟩
    · rw [show ((i + 1 : Nat) : Int) = (i : Int) + 1 by omega]
      exact he'
    · have hb' : b < s.heap.objs.size := by
        rcases (show b = e ∨ b = it by simpa using hb) with z | z
        · rw [z]; exact hel
        · rw [z]; exact hil
      rw [upd_ne (Nat.ne_of_lt hb')]
      exact (hf b hb).1
  done := by
    intro X hP hw hK hc i pins s σ H E I hf st hg
    subst hP hw hK
    obtain ⟨⟨old, he⟩, hit, hne⟩ := st
    obtain ⟨xs, hq, hx⟩ := hg
    obtain ⟨ys, rv, p, hz⟩ := I.tuple hq
    obtain ⟨f0, f1, f2, f3, f4, f5⟩ := hf it (by simp)
    have hl := rv.length
    have D : Draws X.prog X.w X.A.in1 it [it, a] i (fun _ _ => False) (fun j h => j = i ∧ h.IsTupleIter it a i ∧ h.IsTuple a ys.toArray) :=
      ⟨fun _ _ st => let ⟨o, ho, _⟩ := st.2.1; ⟨o, ho⟩, fun _ _ _ st hk => ⟨st.1, st.2.1.at fun o q => hk it (by simp) o q, st.2.2.at fun o q => hk a (by simp) o q⟩, fun j s Q E hj st _ => absurd st.1 (Nat.ne_of_lt hj),
        fun s Q E st hE => wpAny_nextOf_tuple_end (show X.A.in1.handled = none from I.ok.hd hc) st.2.1 st.2.2 (by simp; omega) hE⟩
    exact wpAny_pyNext_enum_endD D he ⟨rfl, hit, p⟩ fun h' eb => ⟨rfl, I.turned (t' := s.toks) (fun b o hb q => eb b o hb q) f0 f1 f3 f4 f5⟩
  self := fun A i s Q E st h => let ⟨⟨_, he⟩, _⟩ := st; wpAny_pyIter_enum he h
def iEnT (K : PySem.W.Frag) (ta : TA) : TI := fun σ H R => ta σ H fun vs H1 => ∃ a xs, vs = [.ref a] ∧ SqT K H1 a xs ∧ R (ItT K a) H1
theorem pi_enumT {X : Cx} {e : Expr} {ta : TA} {p pos tpos : Pos} {elts : List Expr} {kk : Nat} (hg : Gl X "enumerate") (hm : X.mg "enumerate" = none) (ha : PA X [e] ta) (hs : starEach [e] X.env = [(false, eval e X.env)] := by rfl) :
    PI X (.Tuple elts kk tpos) (.Call (.Name "enumerate" p) [e] [] pos) (iEnT X.K ta) := by
  refine ⟨fun pins s σ H R I h => ?_⟩
  refine Call_ (ld_blt I hg hm boot_enumerate (PyProof.Rows.callWith_type1 (thn (ha.run pos pins s σ H _ I h) fun us s1 ⟨vs, H1, I1, r1, q1⟩ => ?_) hs rfl))
  obtain ⟨a, xs, ex, hq, q⟩ := q1
  subst ex
  cases r1 with
  | cons r rr =>
    cases rr
    cases r
    obtain ⟨its, rv, p', hz⟩ := I1.tuple hq
    obtain ⟨ob, hob, _⟩ := id p'
    have hal : a < s1.heap.objs.size := Heap.lt_size hob
    refine called (its := its.toArray) p' fun h' he hit hsz hk => wpAny_pyIter_enum he ?_
    have I2 : Inv X pins σ H1 { s1 with heap := h' } := I1.kept (t' := s1.toks) hk
    refine ⟨s1.heap.objs.size + 1, [s1.heap.objs.size + 1, s1.heap.objs.size], _, _, H1, rfl, I2, turn a (s1.heap.objs.size + 1) s1.heap.objs.size (Nat.ne_of_lt hal) (Nat.ne_of_lt (Nat.lt_succ_of_lt hal)) its.toArray, ⟨⟨.none, he⟩, hit, Nat.succ_ne_self _⟩, fun b hb => ?_, q⟩
    have hle : s1.heap.objs.size ≤ b := by
      rcases (show b = s1.heap.objs.size + 1 ∨ b = s1.heap.objs.size by simpa using hb) with z | z
      · rw [z]; exact Nat.le_add_right _ _
      · rw [z]; exact Nat.le_refl _
    exact I1.fpOk hle (I1.hok.fresh hle)
/-- a loop over it -/
theorem for_enT {K : PySem.W.Frag} {a : Addr} {xs : List V} {g : TG} {tb : TS} {D : Ends} {σ : L2.St} {H : Hp} (Pv : Nat → L2.St → Hp → Prop) (h0 : Pv 0 σ H) (hq : ∀ i σ H, Pv i σ H → SqT K H a xs)
    (hs : ∀ (i : Nat) (x : V) (T : Addr) (σ : L2.St) (H : Hp), xs[i]? = some x → Pv i σ H → H T = none → g (.ref T) σ (upd H T (.tup [.int (i : Nat), x])) fun σ2 H2 => tb { D with nx := Pv (i + 1), ct := Pv (i + 1), bk := D.nx } σ2 H2) (hd : ∀ σ H, Pv xs.length σ H → D.nx σ H) :
    ∃ W : Nat → Nat → L2.St → Hp → Prop, (∃ m, W 0 m σ H) ∧ ∀ i m σ H, W i m σ H →
      ((ItT K a).stop i H ∧ D.nx σ H) ∨ ((ItT K a).go i H ∧ ∃ N : L2.St → Hp → Prop, (∀ σ' H', N σ' H' → ∃ m', m' < m ∧ W (i + 1) m' σ' H') ∧ ∀ v H', (ItT K a).yld i H v H' → g v σ H' fun σ2 H2 => tb { D with nx := N, ct := N, bk := D.nx } σ2 H2) := by
  refine ⟨fun i m σ H => m = xs.length - i ∧ i ≤ xs.length ∧ Pv i σ H, ⟨xs.length, rfl, Nat.zero_le _, h0⟩, ?_⟩
  rintro i m σ H ⟨rfl, hi, p⟩
  have hp := hq i σ H p
  by_cases hlt : i < xs.length
  · refine .inr ⟨⟨xs, xs[i], hp, by simp [hlt]⟩, Pv (i + 1), fun σ' H' p' => ⟨xs.length - (i + 1), by omega, rfl, hlt, p'⟩, fun v H' y => ?_⟩
    obtain ⟨T, x, rfl, hT, rfl, hx⟩ := y
    exact hs i x T σ H (hx xs hp) p hT
  · obtain rfl : i = xs.length := by omega
    exact .inl ⟨⟨xs, hp, Nat.le_refl _⟩, hd σ H p⟩
end EnT
end
section
/-! for x, y in zip(t, l): t a tuple, l a list -/
namespace ZM
open PySem PySem.Spec PyProof.Rows L2
def It (K : PySem.W.Frag) (a b : Addr) : L2.It :=
  ⟨fun i H => ∃ (xs ys : List V) (x y : V), SqT K H a xs ∧ SqL K H b ys ∧ xs[i]? = some x ∧ ys[i]? = some y,
   fun i H v H' => ∃ T x y, v = .ref T ∧ H T = none ∧ H' = upd H T (.tup [x, y]) ∧ (∀ xs, SqT K H a xs → xs[i]? = some x) ∧ ∀ ys, SqL K H b ys → ys[i]? = some y,
   fun i H => ∃ xs ys : List V, SqT K H a xs ∧ SqL K H b ys ∧ i ≤ xs.length ∧ i ≤ ys.length ∧ (i = xs.length ∨ i = ys.length)⟩
/-- where the five stand -/
structure Tn (a b z TI TO i1 i2 : Addr) (i : Nat) (h : Heap) : Prop where
  z : IsZip h z TI TO .none
  ti : IsTupOf2 h TI (.ref i1) (.ref i2)
  to : ∃ x y, IsTupOf2 h TO x y
  i1 : h.IsTupleIter i1 a i
  i2 : h.IsListIter i2 b i
theorem turn {P : Program} {w : World} {K : PySem.W.Frag} {elts : List Expr} {kk : Nat} {tpos : Pos} {a b z TI TO i1 i2 : Addr} (hs : ZipSep2 z TI TO i1 i2 [i1, a] [i2, b]) (ai : a ≠ i1) (bi : b ≠ i2) (az : a ≠ z) (aTO : a ≠ TO) (ai2 : a ≠ i2) (bz : b ≠ z) (bTO : b ≠ TO) (bi1 : b ≠ i1) :
    Turn P w K (.Tuple elts kk tpos) (It K a b) [z, TI, TO, i1, i2] z (Tn a b z TI TO i1 i2) where
  mem := by simp
  obj := fun i h st c hc => by
    obtain ⟨h1, h2, ⟨_, _, h3⟩, ⟨o4, h4, _, d4⟩, ⟨o5, h5, _, d5⟩⟩ := st
    rcases (show c = z ∨ c = TI ∨ c = TO ∨ c = i1 ∨ c = i2 by simpa using hc) with e | e | e | e | e
    all_goals subst e
    · exact ⟨_, h1, fun v q => nomatch q⟩
    · exact ⟨_, h2, fun v q => nomatch q⟩
    · exact ⟨_, h3, fun v q => nomatch q⟩
    · exact ⟨o4, h4, fun v q => by rw [d4] at q; cases q⟩
    · exact ⟨o5, h5, fun v q => by rw [d5] at q; cases q⟩
  keep := fun i h h' st k => ⟨k z (by simp) _ st.z, k TI (by simp) _ st.ti, ⟨_, _, k TO (by simp) _ st.to.choose_spec.choose_spec⟩, st.i1.at fun o q => k i1 (by simp) o q, st.i2.at fun o q => k i2 (by simp) o q⟩
  item := by
    intro X hP hw hK hc i pins s σ H E I hf st hg
    subst hP hw hK
    obtain ⟨hz, hti, ⟨u1, u2, hto⟩, hi1, hi2⟩ := st
    obtain ⟨xs, ys, x, y, hqa, hqb, hx, hy⟩ := hg
    obtain ⟨xt, rvx, px, zx⟩ := I.tuple hqa
    obtain ⟨yt, rvy, py, zy⟩ := I.list hqb
    obtain ⟨u, hu, ru⟩ := rvx.get hx
    obtain ⟨v, hv, rv⟩ := rvy.get hy
    have hul : i < xt.toArray.size := by
      have := (List.getElem?_eq_some_iff.mp hu).1
      simpa using this
    have hvl : i < yt.toArray.size := by
      have := (List.getElem?_eq_some_iff.mp hv).1
      simpa using this
    have lz : z < s.heap.objs.size := Heap.lt_size hz
    have lTI : TI < s.heap.objs.size := Heap.lt_size hti
    have lTO : TO < s.heap.objs.size := Heap.lt_size hto
    have li1 : i1 < s.heap.objs.size := by obtain ⟨_, q, _⟩ := hi1; exact Heap.lt_size q
    have li2 : i2 < s.heap.objs.size := by obtain ⟨_, q, _⟩ := hi2; exact Heap.lt_size q
    refine wpAny_pyNext_zipD2_item hs (Draws.tuple (A := X.A.in1) (show X.A.in1.handled = none from I.ok.hd hc) i1 a ai xt.toArray) (Draws.list (A := X.A.in1) (show X.A.in1.handled = none from I.ok.hd hc) i2 b bi yt.toArray) hz hti hto ⟨hi1, px⟩ ⟨hi2, py.isList⟩ hul hvl fun x1 x2 h' tk hx1 hx2 hz' hto' hs1 hs2 hT hsz hk => ?_
    obtain rfl : x1 = u := by
      have hv' : xt.toArray[i]? = some x1 := hx1
      rw [List.getElem?_toArray, hu] at hv'
      exact (Option.some.inj hv').symm
    obtain rfl : x2 = v := by
      have hv' : yt.toArray[i]? = some x2 := hx2
      rw [List.getElem?_toArray, hv] at hv'
      exact (Option.some.inj hv').symm
    refine ⟨_, rfl, wpAny_letOwnedTupleGo_zip (s := { s with heap := h', toks := tk }) hz' fun h'' he' sb => ?_⟩
    have hT2 : h''.get? s.heap.objs.size = some { cls := .type "tuple", data := .seq #[x1, x2] } := (sb.2 _ (Nat.ne_of_gt lz)).trans hT
    have new : ObjOk X.prog X.w (upd H s.heap.objs.size (.tup [x, y])) h'' s.heap.objs.size (.tup [x, y]) :=
      ⟨by show 2 ≤ sizeLine; decide, [x1, x2], .cons ru (.cons rv .nil), ⟨_, hT2, rfl, _, rfl⟩⟩
    have kp : ∀ (c : Addr) (o : Obj), c ≠ z → c ≠ TO → c ≠ i1 → c ≠ i2 → s.heap.get? c = some o → h''.get? c = some o := fun c o h1 h2 h3 h4 q => (sb.2 c h1).trans (hk c o h1 h2 h3 h4 q)
    have I1 : Inv X pins σ (upd H s.heap.objs.size (.tup [x, y])) { s with heap := h'', toks := tk } :=
      I.turnedNew (ch := [z, TI, TO, i1, i2]) (fun c ob hc q => by
        have hc' : ¬(c = z ∨ c = TI ∨ c = TO ∨ c = i1 ∨ c = i2) := fun e => hc (by simpa using e)
        exact kp c ob (fun e => hc' (.inl e)) (fun e => hc' (.inr (.inr (.inl e)))) (fun e => hc' (.inr (.inr (.inr (.inl e))))) (fun e => hc' (.inr (.inr (.inr (.inr e))))) q) hf (Nat.le_refl _) new
    refine ⟨.ref s.heap.objs.size, _, I1, rfl, ⟨_, x, y, rfl, I.hok.fresh (Nat.le_refl _), rfl, fun zs hq => by rw [I.tuple_inj hq hqa]; exact hx, fun zs hq => by rw [I.list_inj hq hqb]; exact hy⟩, ⟨he', ?_, ⟨x1, x2, (sb.2 TO hs.TOz).trans hto'⟩, ?_, ?_⟩, fun c hc => ?_⟩
    · exact kp TI _ hs.TIz hs.TITO hs.TIi1 hs.TIi2 hti
    · exact hs1.1.at fun o q => (sb.2 i1 (fun e => hs.zf1 (by simp [e]))).trans q
    · exact hs2.1.at fun o q => (sb.2 i2 (fun e => hs.zf2 (by simp [e]))).trans q
    · have hb' : c < s.heap.objs.size := by
        rcases (show c = z ∨ c = TI ∨ c = TO ∨ c = i1 ∨ c = i2 by simpa using hc) with e | e | e | e | e
        all_goals rw [e]; assumption
      rw [upd_ne (Nat.ne_of_lt hb')]
      exact (hf c hc).1
  done := by
    intro X hP hw hK hc i pins s σ H E I hf st hg
    subst hP hw hK
    obtain ⟨hz, hti, ⟨u1, u2, hto⟩, hi1, hi2⟩ := st
    obtain ⟨xs, ys, hqa, hqb, hl1, hl2, hor⟩ := hg
    obtain ⟨xt, rvx, px, zx⟩ := I.tuple hqa
    obtain ⟨yt, rvy, py, zy⟩ := I.list hqb
    have l1 := rvx.length
    have l2 := rvy.length
    refine wpAny_pyNext_zipD2_end hs (Draws.tuple (A := X.A.in1) (show X.A.in1.handled = none from I.ok.hd hc) i1 a ai xt.toArray) (Draws.list (A := X.A.in1) (show X.A.in1.handled = none from I.ok.hd hc) i2 b bi yt.toArray) hz hti hto ⟨hi1, px⟩ ⟨hi2, py.isList⟩ (by simp; omega) (by simp; omega) (by simp; omega) fun h' tk hk => ?_
    exact ⟨rfl, I.turnedL (t' := tk) (ch := [z, TI, TO, i1, i2]) (fun c ob hc q => by
        have hc' : ¬(c = z ∨ c = TI ∨ c = TO ∨ c = i1 ∨ c = i2) := fun e => hc (by simpa using e)
        exact hk c ob (fun e => hc' (.inl e)) (fun e => hc' (.inr (.inr (.inl e)))) (fun e => hc' (.inr (.inr (.inr (.inl e))))) (fun e => hc' (.inr (.inr (.inr (.inr e))))) q) hf⟩
  self := fun A i s Q E st h => wpAny_pyIter_zip st.z h
def iZip (K : PySem.W.Frag) (ta : TA) : TI := fun σ H R => ta σ H fun vs H1 => ∃ a b xs ys, vs = [.ref a, .ref b] ∧ SqT K H1 a xs ∧ SqL K H1 b ys ∧ R (It K a b) H1
theorem pi_zipM {X : Cx} {e e2 : Expr} {ta : TA} {p pos tpos : Pos} {elts : List Expr} {kk : Nat} (hg : Gl X "zip") (hm : X.mg "zip" = none) (ha : PA X [e, e2] ta) (hs : starEach [e, e2] X.env = (false, eval e X.env) :: starEach [e2] X.env := by rfl) (hst : ((backTo pos (starEach [e2] X.env)).any (·.1)) = false := by rfl) :
    PI X (.Tuple elts kk tpos) (.Call (.Name "zip" p) [e, e2] [] pos) (iZip X.K ta) := by
  refine ⟨fun pins s σ H R I h => ?_⟩
  refine Call_ (ld_blt I hg hm boot_zip (PyProof.Rows.callWith_type1 (thn (ha.run pos pins s σ H _ I h) fun us s1 ⟨vs, H1, I1, r1, q1⟩ => ?_) hs hst))
  obtain ⟨a, b, xs, ys, ex, hqa, hqb, q⟩ := q1
  subst ex
  cases r1 with
  | cons r rr =>
    cases rr with
    | cons r2 rr2 =>
      cases rr2
      cases r
      cases r2
      obtain ⟨xt, rvx, px, zx⟩ := I1.tuple hqa
      obtain ⟨yt, rvy, py, zy⟩ := I1.list hqb
      have la : a < s1.heap.objs.size := by obtain ⟨_, h, _⟩ := id px; exact Heap.lt_size h
      have lb : b < s1.heap.objs.size := by obtain ⟨_, _, h, _⟩ := id py; exact Heap.lt_size h
      refine zip_begins2 (begins_tuple a xt.toArray) (begins_list b yt.toArray) px py.isList fun h' hz hti hto hi1 hi2 hsz hk => wpAny_pyIter_zip hz ?_
      have I2 : Inv X pins σ H1 { s1 with heap := h' } := I1.kept (t' := s1.toks) hk
      generalize hn : s1.heap.objs.size = n at *
      have ka : ∀ k : Nat, a ≠ n + k := fun k e => by
        rw [e] at la
        exact absurd la (Nat.not_lt.mpr (Nat.le_add_right n k))
      have kb : ∀ k : Nat, b ≠ n + k := fun k e => by
        rw [e] at lb
        exact absurd lb (Nat.not_lt.mpr (Nat.le_add_right n k))
      have nn : ∀ i j : Nat, i ≠ j → n + i ≠ n + j := fun i j h e => h (Nat.add_left_cancel e)
      have two : ∀ {x y z : Addr}, x ≠ y → x ≠ z → ¬ x ∈ [y, z] := fun h1 h2 h => by
        rcases List.mem_cons.mp h with e | h
        · exact h1 e
        · exact h2 (List.mem_singleton.mp h)
      refine ⟨n + 4, [n + 4, n + 2, n + 3, n, n + 1], _, _, H1, rfl, I2, turn (TI := n + 2) (TO := n + 3) (i1 := n) (i2 := n + 1)
          ⟨nn 2 4 (by decide), nn 3 4 (by decide), nn 2 3 (by decide), nn 2 0 (by decide), by simp, two (nn 4 0 (by decide)) (ka 4).symm, two (nn 3 0 (by decide)) (ka 3).symm, nn 2 1 (by decide), by simp, two (nn 4 1 (by decide)) (kb 4).symm, two (nn 3 1 (by decide)) (kb 3).symm, two (nn 0 1 (by decide)) (kb 0).symm, two (nn 1 0 (by decide)) (ka 1).symm⟩
          (ka 0) (kb 1) (ka 4) (ka 3) (ka 1) (kb 4) (kb 3) (kb 0),
        ⟨hz, hti, ⟨_, _, hto⟩, ⟨_, hi1, rfl, rfl⟩, ⟨_, hi2, rfl, rfl⟩⟩, fun c hc => ?_, q⟩
      have hle : n ≤ c := by
        rcases (show c = n + 4 ∨ c = n + 2 ∨ c = n + 3 ∨ c = n ∨ c = n + 1 by simpa using hc) with e | e | e | e | e
        · rw [e]; exact Nat.le_add_right _ _
        · rw [e]; exact Nat.le_add_right _ _
        · rw [e]; exact Nat.le_add_right _ _
        · rw [e]; exact Nat.le_refl _
        · rw [e]; exact Nat.le_add_right _ _
      exact I1.fpOk (by rw [hn]; exact hle) (I1.hok.fresh (by rw [hn]; exact hle))
theorem walk {K : PySem.W.Frag} {a b : Addr} {xs ys : List V} {n : Nat} (hn : n = min xs.length ys.length) : Walk (It K a b) n (fun H => SqT K H a xs ∧ SqL K H b ys) (YPair (fun i => xs[i]?) (fun i => ys[i]?)) := by
  subst hn
  refine ⟨fun i _ hi q => ?_, fun _ q => ⟨xs, ys, q.1, q.2, by omega, by omega, by omega⟩, fun i H v H' _ q y => ?_⟩
  · have h1 : i < xs.length := by omega
    have h2 : i < ys.length := by omega
    exact ⟨xs, ys, xs[i], ys[i], q.1, q.2, by simp [h1], by simp [h2]⟩
  · obtain ⟨T, x, z, h1, h2, h3, h4, h5⟩ := y
    exact ⟨T, x, z, h1, h2, h3, h4 xs q.1, h5 ys q.2⟩
end ZM
end
section
/-! x in t, x not in t: t a tuple of data -/
namespace ID
open PySem PySem.Spec PyProof.Rows L2
def rInT (K : PySem.W.Frag) (neg : Bool) : R2 := fun x y H Q => ∃ d ds, Dp K H x d ∧ Dp K H y (.tuple ds) ∧ SeqAt.shaped d = true ∧ SeqAt.shaped (.tuple ds) = true ∧ Q (.bl (if neg then !(ds.any fun z => PyData.eqv z d) else ds.any fun z => PyData.eqv z d)) H
theorem op_inT {X : Cx} (hu : X.A.units + 65 < cLine) : OpR X (compareOp .In) (rInT X.K false) := by
  intro pins s σ H x y v u Q I rx ry h
  obtain ⟨d, ds, hd, he, sd, se, q⟩ := h
  obtain ⟨as, r1⟩ := Dp.reads I d x v hd rx
  obtain ⟨bs, r2⟩ := Dp.reads I (.tuple ds) y u he ry
  exact SeqAt.in_tuple_reads r2 r1 (SeqAt.canLay_of_shaped se) (SeqAt.canLay_of_shaped sd) (room_in_shaped sd hu) ⟨.bl _, H, I, rfl, q⟩
theorem op_notInT {X : Cx} (hu : X.A.units + 65 < cLine) : OpR X (compareOp .NotIn) (rInT X.K true) := by
  intro pins s σ H x y v u Q I rx ry h
  obtain ⟨d, ds, hd, he, sd, se, q⟩ := h
  obtain ⟨as, r1⟩ := Dp.reads I d x v hd rx
  obtain ⟨bs, r2⟩ := Dp.reads I (.tuple ds) y u he ry
  exact SeqAt.notIn_tuple_reads r2 r1 (SeqAt.canLay_of_shaped se) (SeqAt.canLay_of_shaped sd) (room_in_shaped sd hu) ⟨.bl _, H, I, rfl, q⟩
end ID
end
section
namespace K19
open PySem L2 No RZ
/-! ### comprehensions over any walk whose values are data without lists -/
theorem seqT_lstL {K : PySem.W.Frag} {H : Hp} {b x : Addr} {ys zs xs : List V} (hb : H b = some (.lst ys)) (h : SqT K H x xs) : SqT K (upd H b (.lst zs)) x xs := by
  rcases h with (h | ⟨o, h⟩) | h
  · exact .inl (.inl (by rw [upd_ne (ne_of h hb (by intro z; cases z))]; exact h))
  · exact .inl (.inr ⟨o, by rw [upd_ne (ne_of h hb (by intro z; cases z))]; exact h⟩)
  · exact .inr h
mutual
def noL : PyData → Bool
  | .list _ => false
  | .dict _ => false
  | .tuple ds => noLs ds
  | _ => true
def noLs : List PyData → Bool
  | [] => true
  | d :: r => noL d && noLs r
end
theorem noLs_mem : ∀ {ds : List PyData}, noLs ds = true ↔ ∀ d, d ∈ ds → noL d = true
  | [] => ⟨fun _ d h => (nomatch h), fun _ => by unfold noLs; rfl⟩
  | d :: r => by
    unfold noLs
    rw [Bool.and_eq_true, noLs_mem]
    constructor
    · intro h e he
      rcases List.mem_cons.mp he with rfl | he
      · exact h.1
      · exact h.2 e he
    · intro h
      exact ⟨h d List.mem_cons_self, fun e he => h e (List.mem_cons_of_mem _ he)⟩
mutual
theorem dp_up {K : PySem.W.Frag} {H : Hp} {D : Addr} {ys zs : List V} (hD : H D = some (.lst ys)) : ∀ (d : PyData) (x : V), noL d = true → Dp K H x d → Dp K (upd H D (.lst zs)) x d
  | .none, _, _, .non => .non
  | .bool _, _, _, .bl b => .bl b
  | .int _, _, _, .int i => .int i
  | .str _, _, _, .str s => .str s
  | .list _, _, n, _ => by unfold noL at n; cases n
  | .tuple ds, _, n, .tup h t => .tup (seqT_lstL hD h) (dps_up hD ds _ (by unfold noL at n; exact n) t)
theorem dps_up {K : PySem.W.Frag} {H : Hp} {D : Addr} {ys zs : List V} (hD : H D = some (.lst ys)) : ∀ (ds : List PyData) (xs : List V), noLs ds = true → DpAll K H xs ds → DpAll K (upd H D (.lst zs)) xs ds
  | [], _, _, .nil => .nil
  | d :: r, _, n, .cons h t => .cons (dp_up hD d _ (by unfold noLs at n; rw [Bool.and_eq_true] at n; exact n.1) h) (dps_up hD r _ (by unfold noLs at n; rw [Bool.and_eq_true] at n; exact n.2) t)
end
theorem dps_snoc {K : PySem.W.Frag} {H : Hp} {x : V} {d : PyData} (h : Dp K H x d) : ∀ {xs : List V} {ds : List PyData}, DpAll K H xs ds → DpAll K H (xs ++ [x]) (ds ++ [d])
  | _, _, .nil => .cons h .nil
  | _, _, .cons h2 t => .cons h2 (dps_snoc h t)
theorem lc_dat {K : PySem.W.Frag} {J : It} {n : Nat} {G : Hp → Prop} {Y : Nat → Hp → V → Hp → Prop} (w : Walk J n G Y) {g : TG} {te : TE} {vs : List Nat} {σ : L2.St} {H1 : Hp} {D : Addr} {Qd : Hp → Prop} (ds : List PyData) (hD : H1 D = none) (hn : ds.length = n) (hz : n ≤ 100000) (nl : noLs ds = true)
    (hG : ∀ H', Same H1 H' → G H')
    (hs : ∀ (i : Nat) (y : V) (H4 H5 : Hp) (d : PyData) (R : V → Hp → Prop), ds[i]? = some d → Same H1 H4 → Y i H4 y H5 → (∀ z H6, Same H4 H6 → Dp K H6 z d → R z H6) → g y (wipe σ vs) H5 fun σ2 H2 => wipe σ2 vs = wipe σ vs ∧ te σ2 H2 R)
    (hd : ∀ (H : Hp) (ys : List V), Same H1 H → H D = some (.lst ys) → DpAll K H ys ds → Qd H) (hg : ∀ y σ0 H0 (A B : L2.St → Hp → Prop), (∀ s h, A s h → B s h) → g y σ0 H0 A → g y σ0 H0 B) :
    ∃ W : Nat → Nat → Hp → Prop, (∃ m, W 0 m (upd H1 D (.lst []))) ∧ ∀ i m H, W i m H →
      (J.stop i H ∧ Qd H) ∨ (J.go i H ∧ ∃ Nx : Hp → Prop, (∀ H', Nx H' → ∃ m', m' < m ∧ W (i + 1) m' H') ∧ ∀ x H', J.yld i H x H' → g x (wipe σ vs) H' fun σ2 H2 => wipe σ2 vs = wipe σ vs ∧ tYes σ2 H2 fun b H3 =>
        if b = true then te σ2 H3 fun y H4 => ∃ acc, H4 D = some (.lst acc) ∧ acc.length < sizeLine ∧ Nx (upd H4 D (.lst (acc ++ [y]))) else Nx H3) := by
  refine lc_it w (fun j H4 => Same H1 H4 ∧ ∃ ys, H4 D = some (.lst ys) ∧ DpAll K H4 ys (ds.take j)) ?_ (fun j H4 _ h => hG _ h.1) ?_ ?_
  · exact ⟨Same.new hD, [], upd_same, .nil⟩
  · rintro j y H4 H5 hj ⟨s4, ys, hd4, hys⟩ hy
    obtain ⟨d, hdj⟩ : ∃ d, ds[j]? = some d := ⟨_, List.getElem?_eq_getElem (by omega)⟩
    have yl := DpAll.len hys
    have nlt : noLs (ds.take j) = true := noLs_mem.mpr fun e he => noLs_mem.mp nl e (List.mem_of_mem_take he)
    have nld := noLs_mem.mp nl d (List.mem_of_getElem? hdj)
    refine hg _ _ _ _ _ ?_ (hs j y H4 H5 d (fun z H6 => ∃ acc, H6 D = some (.lst acc) ∧ acc.length < sizeLine ∧ (Same H1 (upd H6 D (.lst (acc ++ [z]))) ∧ ∃ ys, (upd H6 D (.lst (acc ++ [z]))) D = some (.lst ys) ∧ DpAll K (upd H6 D (.lst (acc ++ [z]))) ys (ds.take (j + 1)))) hdj s4 hy ?_)
    · intro σ2 H2 ⟨e, h⟩
      exact ⟨e, yes h⟩
    · intro z H6 s6 hz6
      have hd6 := s6 _ _ hd4
      refine ⟨ys, hd6, by rw [yl, List.length_take, sizeLine_eq]; omega, fun b o hb => ?_, ys ++ [z], upd_same, ?_⟩
      · rw [upd_ne (ne_of_none hb hD)]
        exact s6 _ _ (s4 _ _ hb)
      · rw [List.take_add_one, hdj]
        exact dps_snoc (dp_up hd6 d z nld hz6) (dps_up hd6 _ _ nlt (DpAll.same s6 _ _ hys))
  · rintro H ⟨s1, ys, hd1, hys⟩
    rw [List.take_of_length_le (by omega)] at hys
    exact hd H ys s1 hd1 hys
theorem gName_mono {i : Nat} : ∀ y σ0 H0 (A B : L2.St → Hp → Prop), (∀ s h, A s h → B s h) → gName i y σ0 H0 A → gName i y σ0 H0 B := fun _ _ _ _ _ h a => h _ _ a
theorem gTup2_mono {K : PySem.W.Frag} {i j : Nat} : ∀ y σ0 H0 (A B : L2.St → Hp → Prop), (∀ s h, A s h → B s h) → gTup K 2 (gCons (gName i) (gCons (gName j) gNil)) y σ0 H0 A → gTup K 2 (gCons (gName i) (gCons (gName j) gNil)) y σ0 H0 B := by
  rintro y σ0 H0 A B h ⟨p, xs, e1, h1, h2, h3⟩
  refine ⟨p, xs, e1, h1, h2, ?_⟩
  match xs, h2 with
  | [a, b], _ =>
    obtain ⟨v1, r1, e1, v2, r2, e2, h3⟩ := h3
    exact ⟨v1, r1, e1, v2, r2, e2, h3.1, h _ _ h3.2⟩
theorem dpa_bl {K : PySem.W.Frag} {H : Hp} : ∀ {bs : List Bool} {ys : List V}, DpAll K H ys (bs.map PyData.bool) → ys = bs.map V.bl
  | [], _, .nil => rfl
  | b :: bs, _, .cons h t => by
    cases h
    rw [dpa_bl t]
    rfl
theorem noLs_bl : ∀ (bs : List Bool), noLs (bs.map PyData.bool) = true := fun bs => noLs_mem.mpr fun d hd => by
  obtain ⟨b, _, rfl⟩ := List.mem_map.mp hd
  unfold noL
  rfl
end K19
end
section
namespace K19
open PySem L2 No RZ
/-! ### steps: the checks -/
theorem slT {K : PySem.W.Frag} {H : Hp} {a : Addr} {xs : List V} {Q : VK} (h : SqT K H a xs) (h1 : 1 ≤ xs.length) (q : ∀ (p : Addr) (H' : Hp), Same H H' → SqT K H' p (xs.drop 1) → Q (.ref p) H') : rSlA K (.ref a) (some 1) none H Q := by
  have e : cutV xs (some 1) none = xs.drop 1 := by
    unfold cutV
    rw [show HT.sIx xs.length 0 (some 1) = 1 from (HT.sIx_nat xs.length 0 1).trans (Nat.min_eq_left h1), HT.sIx_none]
    exact List.take_of_length_le (by rw [List.length_drop]; omega)
  refine ⟨a, xs, rfl, h, fun ⟨e1, e2⟩ => ?_, fun _ p hp => ?_⟩
  · have : HT.sIx xs.length 0 (some 1) = 1 := (HT.sIx_nat xs.length 0 1).trans (Nat.min_eq_left h1)
    rw [this] at e1
    cases e1
  · rw [e]
    exact q p _ (Same.new hp) (.inl (.inl upd_same))
theorem noPx {σ : L2.St} {H : Hp} {k : Option Int → Hp → Prop} (h : k none H) : tNoPart σ H k := h
theorem walk_zipTT {K : PySem.W.Frag} {a b : Addr} {xs ys : List V} {n : Nat} (hn : n = min xs.length ys.length) : Walk (ItzT K a b) n (fun H => SqT K H a xs ∧ SqT K H b ys) (YPair (fun i => xs[i]?) (fun i => ys[i]?)) := by
  subst hn
  refine ⟨fun i _ hi q => ?_, fun _ q => ⟨xs, ys, q.1, q.2, by omega⟩, fun i H v H' _ q y => ?_⟩
  · have h1 : i < xs.length := by omega
    have h2 : i < ys.length := by omega
    exact ⟨xs, ys, xs[i], ys[i], q.1, q.2, by simp [h1], by simp [h2]⟩
  · obtain ⟨T, x, z, h1, h2, h3, h4, h5⟩ := y
    exact ⟨T, x, z, h1, h2, h3, h4 xs q.1, h5 ys q.2⟩
theorem dpa_at {K : PySem.W.Frag} {H : Hp} : ∀ {xs : List V} {ds : List PyData}, DpAll K H xs ds → ∀ {i : Nat} {x : V}, xs[i]? = some x → ∃ d, ds[i]? = some d ∧ Dp K H x d
  | _, _, .nil, i, x, e => by simp at e
  | _, _, .cons h t, 0, x, e => by
    simp at e
    subst e
    exact ⟨_, rfl, h⟩
  | _, _, .cons h t, i + 1, x, e => dpa_at t (by simpa using e)
/-- sizes within bounds -/
def Ok1 (ds : List PyData) : Prop := ds.length ≤ 100000 ∧ (∀ d, d ∈ ds → SL d) ∧ ∀ ls, .tuple ls ∈ ds → ls.length ≤ 100000
def Ok0 (d : PyData) : Prop := ∀ ds, d = .tuple ds → Ok1 ds
/-- FORMS -/
structure Fm (K : PySem.W.Frag) (w : World) (cF : Addr) : Prop where
  kd : ∃ es n, KDict K w cF es n
  no : ∀ z, formOf z = none → PySem.W.nsIn K cF z = some none
  yes : ∀ z f, formOf z = some f → ∃ a, PySem.W.nsIn K cF z = some (some (.ref a)) ∧ ∀ H, SqT K H a (f.map fun k => V.str k.s)
theorem Fm.dct {K : PySem.W.Frag} {w : World} {cF : Addr} (F : Fm K w cF) {z : Str} {f : List Kd} (h : formOf z = some f) : ∃ a, KDct K w cF z (.ref a) ∧ ∀ H, SqT K H a (f.map fun k => V.str k.s) := by
  obtain ⟨es, n, D⟩ := F.kd
  obtain ⟨a, h1, h2⟩ := F.yes z f h
  exact ⟨a, ⟨es, n, _, D.at_, D.lit, h1, rfl⟩, h2⟩
abbrev sis_key : Stmt := top 27
abbrev nis_key : List Str := ["value"]
abbrev pis_key : List Str := ["value"]
theorem scis_key : FnScope nis_key pis_key (defScope sis_key) := ⟨rfl, rfl, rfl, by decide +kernel, rfl, by decide +kernel, by decide +kernel⟩
def spKeyA (K : PySem.W.Frag) : Sp := fun vs H Q _ => ∃ (x : V) (d : PyData), vs = [x] ∧ Dp K H x d ∧ SL d ∧ Q (.bl (sgD d 1 40)) H
abbrev sis_count : Stmt := top 32
abbrev nis_count : List Str := ["value"]
abbrev pis_count : List Str := ["value"]
theorem scis_count : FnScope nis_count pis_count (defScope sis_count) := ⟨rfl, rfl, rfl, by decide +kernel, rfl, by decide +kernel, by decide +kernel⟩
def spCntD (K : PySem.W.Frag) : Sp := fun vs H Q _ => ∃ (x : V) (d : PyData), vs = [x] ∧ Dp K H x d ∧ Q (.bl (cntD d)) H
abbrev sis_part : Stmt := top 33
abbrev nis_part : List Str := ["kind", "value"]
abbrev pis_part : List Str := ["kind", "value"]
theorem scis_part : FnScope nis_part pis_part (defScope sis_part) := ⟨rfl, rfl, rfl, by decide +kernel, rfl, by decide +kernel, by decide +kernel⟩
def spPart (K : PySem.W.Frag) : Sp := fun vs H Q _ => ∃ (k : Kd) (x : V) (d : PyData), vs = [.str k.s, x] ∧ Dp K H x d ∧ SL d ∧ Q (.bl (partD k d)) H
abbrev sis_pair : Stmt := top 34
abbrev nis_pair : List Str := ["value"]
abbrev pis_pair : List Str := ["value"]
theorem scis_pair : FnScope nis_pair pis_pair (defScope sis_pair) := ⟨rfl, rfl, rfl, by decide +kernel, rfl, by decide +kernel, by decide +kernel⟩
def spPairD (K : PySem.W.Frag) : Sp := fun vs H Q _ => ∃ (x : V) (d : PyData), vs = [x] ∧ Dp K H x d ∧ Q (.bl (pairD d)) H
abbrev sis_world_step : Stmt := top 35
abbrev nis_world_step : List Str := ["step", "link"]
abbrev pis_world_step : List Str := ["step"]
theorem scis_world_step : FnScope nis_world_step pis_world_step (defScope sis_world_step) := ⟨rfl, rfl, rfl, by decide +kernel, rfl, by decide +kernel, by decide +kernel⟩
def spWS (K : PySem.W.Frag) : Sp := fun vs H Q _ => ∃ (x : V) (ds : List PyData), vs = [x] ∧ Dp K H x (.tuple ds) ∧ Ok1 ds ∧ ∀ H', Same H H' → Q (.bl (wsD ds)) H'
abbrev sis_step : Stmt := top 36
abbrev nis_step : List Str := ["value", "kind", "part"]
abbrev pis_step : List Str := ["value"]
theorem scis_step : FnScope nis_step pis_step (defScope sis_step) := ⟨rfl, rfl, rfl, by decide +kernel, rfl, by decide +kernel, by decide +kernel⟩
def spStep (K : PySem.W.Frag) : Sp := fun vs H Q _ => ∃ (x : V) (d : PyData), vs = [x] ∧ Dp K H x d ∧ Ok0 d ∧ ∀ H', Same H H' → Q (.bl (stepD d)) H'
instance : DecidableEq Kd := fun a b => by
  cases a <;> cases b <;> first | exact isTrue rfl | exact isFalse (fun h => by cases h)
theorem kd_c : ("count" : Str) = Kd.s .c := rfl
theorem kd_k : ("key" : Str) = Kd.s .k := rfl
theorem kd_dec (k m : Kd) : decide (V.str k.s = V.str m.s) = decide (k = m) := by
  cases k <;> cases m <;> decide +kernel
section
variable {P : Program} {w : World} {K : PySem.W.Frag} {mg : Str → Option Value} {base : Heap}
theorem ok_keyA {f fS : Addr} {fd fdS : FuncData} (D : Dfn K mg "is_key" sis_key pis_key f fd) (MK : ∃ t, mg "MOST_KEY" = some (.int 40 t)) (DS : Dfn K mg "is_signs" sis_signs pis_signs fS fdS) (GS : FnOk P w K mg base CX0 1 fS fdS pis_signs (spSgA K)) : FnOk P w K mg base CX0 2 f fd pis_key (spKeyA K) := by
  have nd := scis_key.nd
  obtain ⟨t, hmk⟩ := MK
  refine D.F.ok scis_key (fun vs H Q E h => ?_) (fun cdv A outer s H vs Q E hr h => ?_)
  · obtain ⟨x, d, rfl, _⟩ := h
    rfl
  · obtain ⟨x, d, rfl, hx, hl, q⟩ := h
    refine ⟨_, pss_one (ps_ret (pe_call GS hr (by rfl) DS.g DS.F.kp DS.b .nil pass0 (pa_cons (pv 0) (pa_cons pe_int (pa_cons (pe_glob (v := .int 40) rfl hmk ⟨_, rfl⟩) pa_nil))))), ?_⟩
    exact ⟨_, rfl, x, d, 1, 40, rfl, hx, hl, q⟩
theorem ok_cntD {f fB : Addr} {fd fdB : FuncData} (D : Dfn K mg "is_count" sis_count pis_count f fd) (MC : ∃ t, mg "MOST_COUNT" = some (.int 1048576 t)) (DB : Dfn K mg "is_between" sis_between pis_between fB fdB) (GB : FnOk P w K mg base CX0 1 fB fdB pis_between (spBtwD K)) : FnOk P w K mg base CX0 2 f fd pis_count (spCntD K) := by
  have nd := scis_count.nd
  obtain ⟨t, hmc⟩ := MC
  refine D.F.ok scis_count (fun vs H Q E h => ?_) (fun cdv A outer s H vs Q E hr h => ?_)
  · obtain ⟨x, d, rfl, _⟩ := h
    rfl
  · obtain ⟨x, d, rfl, hx, q⟩ := h
    refine ⟨_, pss_one (ps_ret (pe_call GB hr (by rfl) DB.g DB.F.kp DB.b .nil pass0 (pa_cons (pv 0) (pa_cons pe_int (pa_cons (pe_glob (v := .int 1048576) rfl hmc ⟨_, rfl⟩) pa_nil))))), ?_⟩
    exact ⟨_, rfl, x, d, 0, 1048576, rfl, hx, q⟩
theorem ok_part {f fC fK fV : Addr} {fd fdC fdK fdV : FuncData} (D : Dfn K mg "is_part" sis_part pis_part f fd) (DC : Dfn K mg "is_count" sis_count pis_count fC fdC) (GC : FnOk P w K mg base CX0 2 fC fdC pis_count (spCntD K))
    (DK : Dfn K mg "is_key" sis_key pis_key fK fdK) (GK : FnOk P w K mg base CX0 2 fK fdK pis_key (spKeyA K)) (DV : Dfn K mg "is_value" sis_value pis_value fV fdV) (GV : FnOk P w K mg base CX0 2 fV fdV pis_value (spIVA K)) : FnOk P w K mg base CX0 3 f fd pis_part (spPart K) := by
  have nd := scis_part.nd
  refine D.F.ok scis_part (fun vs H Q E h => ?_) (fun cdv A outer s H vs Q E hr h => ?_)
  · obtain ⟨k, x, d, rfl, _⟩ := h
    rfl
  · obtain ⟨k, x, d, rfl, hx, hl, q⟩ := h
    refine ⟨_, pss_cons (ps_if (pt_cmpR op_eq (pv 0) pe_str (nomark _)) (pss_one (ps_ret (pe_call GC hr (by rfl) DC.g DC.F.kp DC.b .nil pass0 (pa_cons (pv 1) pa_nil)))) pss_nil)
      (pss_one (ps_ret (pe_ifExp (pt_cmpR op_eq (pv 0) pe_str (nomark _)) (pe_call GK hr (by rfl) DK.g DK.F.kp DK.b .nil pass0 (pa_cons (pv 1) pa_nil)) (pe_call GV hr (by rfl) DV.g DV.F.kp DV.b .nil pass0 (pa_cons (pv 1) pa_nil))))), ?_⟩
    refine ⟨_, rfl, rfl, _, rfl, ?_⟩
    rw [kd_c, kd_dec]
    cases k with
    | c =>
      refine iteT ?_
      exact ⟨_, rfl, x, d, rfl, hx, q⟩
    | k =>
      refine iteF ?_
      refine ⟨_, rfl, rfl, _, rfl, ?_⟩
      rw [kd_k, kd_dec]
      refine iteT ?_
      exact ⟨_, rfl, x, d, rfl, hx, hl, q⟩
    | v =>
      refine iteF ?_
      refine ⟨_, rfl, rfl, _, rfl, ?_⟩
      rw [kd_k, kd_dec]
      refine iteF ?_
      exact ⟨_, rfl, x, d, rfl, hx, hl, q⟩
theorem ok_pair {f fC : Addr} {fd fdC : FuncData} (D : Dfn K mg "is_pair" sis_pair pis_pair f fd) (B : Bi mg) (DC : Dfn K mg "is_count" sis_count pis_count fC fdC) (GC : FnOk P w K mg base CX0 2 fC fdC pis_count (spCntD K)) : FnOk P w K mg base CX0 3 f fd pis_pair (spPairD K) := by
  have nd := scis_pair.nd
  refine D.F.ok scis_pair (fun vs H Q E h => ?_) (fun cdv A outer s H vs Q E hr h => ?_)
  · obtain ⟨x, d, rfl, _⟩ := h
    rfl
  · obtain ⟨x, d, rfl, hx, q⟩ := h
    refine ⟨_, pss_one (ps_ret (pe_and (pe_cmpR op_isTyB (pe_callTy call_type1 (by rfl) B.type (by decide +kernel) (pa_cons (pv 0) pa_nil)) (pe_bltn (v := .ty "tuple") (by rfl) B.tuple (by decide +kernel) rfl) (nomark _))
      (pe_and (pe_cmpR op_eq (pe_callB call_len_seq (by rfl) B.len PySem.boot_len (pa_cons (pv 0) pa_nil)) pe_int (nomark _))
      (pe_and (pe_call GC hr (by rfl) DC.g DC.F.kp DC.b .nil pass0 (pa_cons (pe_ix (r := rIxT K) ix_tup (pv 0) pe_int (fun _ _ => rfl)) pa_nil))
      (pe_one (pe_call GC hr (by rfl) DC.g DC.F.kp DC.b .nil pass0 (pa_cons (pe_ix (r := rIxT K) ix_tup (pv 0) pe_int (fun _ _ => rfl)) pa_nil))))))), ?_⟩
    refine ⟨_, rfl, _, _, rfl, dp_tyB hx, _, _, rfl, rfl, _, rfl, ?_⟩
    cases hx with
    | @tup a xs ds h t =>
      refine iteT ?_
      have xl := DpAll.len t
      refine ⟨_, rfl, a, xs, rfl, .inr h, rfl, _, rfl, ?_⟩
      match ds, xs, t, xl with
      | [], [], t, xl => exact iteF q
      | [_], [_], t, xl => exact iteF q
      | d1 :: d2 :: d3 :: ds, x1 :: x2 :: x3 :: xs, t, xl =>
        rw [show decide (V.int (((x1 :: x2 :: x3 :: xs).length : Nat) : Int) = V.int 2) = false from decide_eq_false fun e => by injection e with e; simp only [List.length_cons] at e; omega]
        exact iteF q
      | [d1, d2], [x1, x2], .cons h1 (.cons h2 .nil), xl =>
        refine iteT ?_
        have q : Q (.bl (cntD d1 && cntD d2)) H := q
        refine ⟨_, rfl, a, _, _, _, rfl, rfl, h, at_of (j := 0) rfl rfl, x1, d1, rfl, h1, _, rfl, ?_⟩
        cases hc : cntD d1 with
        | false =>
          rw [hc, Bool.false_and] at q
          exact iteF q
        | true =>
          rw [hc, Bool.true_and] at q
          refine iteT ?_
          exact ⟨_, rfl, a, _, _, _, rfl, rfl, h, at_of (j := 1) rfl rfl, x2, d2, rfl, h2, q⟩
    | non => exact iteF q
    | bl b => exact iteF q
    | int s => exact iteF q
    | str s => exact iteF q
    | lst _ _ => exact iteF q
theorem ok_ws {f fC fP : Addr} {fd fdC fdP : FuncData} (D : Dfn K mg "is_world_step" sis_world_step pis_world_step f fd) (B : Bi mg) (DC : Dfn K mg "is_count" sis_count pis_count fC fdC) (GC : FnOk P w K mg base CX0 2 fC fdC pis_count (spCntD K))
    (DP : Dfn K mg "is_pair" sis_pair pis_pair fP fdP) (GP : FnOk P w K mg base CX0 3 fP fdP pis_pair (spPairD K)) : FnOk P w K mg base CX0 4 f fd pis_world_step (spWS K) := by
  have nd := scis_world_step.nd
  refine D.F.ok scis_world_step (fun vs H Q E h => ?_) (fun cdv A outer s H vs Q E hr h => ?_)
  · obtain ⟨x, ds, rfl, _⟩ := h
    rfl
  · obtain ⟨x, ds, rfl, hx, ok, q⟩ := h
    have hr2 : Room 2 _ := hr.mono (by decide)
    refine ⟨_, pss_cons (ps_if (PW.pt (pw_or (pt_cmpR op_ne (pe_callB call_len_seq (by rfl) B.len PySem.boot_len (pa_cons (pv 0) pa_nil)) pe_int (nomark _)) (pw_or (pt_not (pt_val (pe_call GC hr2 (by rfl) DC.g DC.F.kp DC.b .nil pass0 (pa_cons (pe_ix (r := rIxT K) ix_tup (pv 0) pe_int (fun _ _ => rfl)) pa_nil))))
        (pw_or1 (pt_cmpR op_notTyB (pe_callTy call_type1 (by rfl) B.type (by decide +kernel) (pa_cons (pe_ix (r := rIxT K) ix_tup (pv 0) pe_int (fun _ _ => rfl)) pa_nil)) (pe_bltn (v := .ty "tuple") (by rfl) B.tuple (by decide +kernel) rfl) (nomark _)))))) (pss_one (ps_ret pe_bl)) pss_nil)
      (pss_one (ps_ret (pe_callB (cr_all rfl) (by rfl) B.all (by decide +kernel) (pa_cons (pe_lc (own := [("link", 1)]) (g := gName 1) (tt := tYes) (te := tCall (spPairD K) [] E0 (tCons (tVar 1) tNil)) rfl nd (pi_tup (pe_ix (r := rIxT K) ix_tup (pv 0) pe_int (fun _ _ => rfl))) (blkOk_by (N := nis_world_step) (sc := defScope sis_world_step) (by decide +kernel)) (fun _ _ _ _ _ => pg_name (i := 1) nd rfl (.inl rfl)) (fun _ _ _ _ _ => pts_nil) (fun _ _ _ _ _ => by exact (pe_call GP hr (by rfl) DP.g DP.F.kp DP.b .nil pass0 (pa_cons (pv 1) pa_nil)))) pa_nil)))), ?_⟩
    cases hx with
    | @tup a xs ds h t =>
      have xl := DpAll.len t
      refine ⟨_, rfl, a, xs, rfl, .inr h, rfl, _, rfl, ?_⟩
      have no : ds.length ≠ 3 → wsD ds = false := fun e => by
        match ds, e with
        | [], _ => rfl
        | [_], _ => rfl
        | [_, _], _ => rfl
        | _ :: _ :: d :: _ :: _, _ => exact (by cases d <;> rfl)
        | [_, _, _], e => exact absurd rfl e
      by_cases l3 : ds.length = 3
      · match ds, xs, t, xl, l3 with
        | [d1, d2, d3], [x1, x2, x3], .cons h1 (.cons h2 (.cons h3 .nil)), xl, _ =>
          refine iteF ?_
          refine ⟨_, rfl, a, _, _, _, rfl, rfl, h, at_of (j := 1) rfl rfl, x2, d2, rfl, h2, _, rfl, ?_⟩
          cases hc : cntD d2 with
          | false =>
            have e : wsD [d1, d2, d3] = false := by
              cases d3 <;> first | rfl | (show (cntD d2 && _) = false; rw [hc]; rfl)
            rw [e] at q
            refine iteT ?_
            refine iteT ?_
            exact q _ (Same.refl _)
          | true =>
            refine iteF ?_
            refine ⟨_, rfl, a, _, _, _, rfl, rfl, h, at_of (j := 2) rfl rfl, _, _, rfl, dp_tyB h3, _, _, rfl, rfl, _, rfl, ?_⟩
            have ok3 := ok.2.2
            cases h3 with
            | @tup a3 xs3 ls h3 t3 =>
              refine iteF ?_
              have q : ∀ H', Same H H' → Q (.bl (cntD d2 && ls.all pairD)) H' := q
              rw [hc, Bool.true_and] at q
              have hl := ok3 ls (List.mem_cons_of_mem _ (List.mem_cons_of_mem _ List.mem_cons_self))
              refine ⟨_, rfl, a, _, _, _, rfl, rfl, h, at_of (j := 2) rfl rfl, a3, rfl, ⟨_, h3⟩, fun Dl hD => ?_⟩
              have ll := DpAll.len t3
              refine lc_dat walk_tup (K := K) ((ls.map pairD).map PyData.bool) hD (by rw [List.length_map, List.length_map, ll]) (by omega) (noLs_bl _) (fun H' s' => Same.seqT s' h3) ?_ ?_ gName_mono
              · rintro i y H4 H5 d R hi s4 ⟨rfl, hy⟩ hR
                obtain ⟨e, he, hye⟩ := dpa_at (DpAll.same s4 _ _ t3) hy
                rw [List.getElem?_map, List.getElem?_map, he] at hi
                have hi := Option.some.inj hi
                subst hi
                exact ⟨rfl, _, rfl, y, e, rfl, hye, hR _ _ (Same.refl _) (.bl _)⟩
              · rintro H6 ys s6 hd6 hys
                rw [dpa_bl hys] at hd6
                refine ⟨Dl, _, rfl, SqL.of hd6, ?_⟩
                rw [show (ls.map pairD).all id = ls.all pairD by rw [List.all_map]; rfl]
                exact q _ s6
            | non => exact iteT (q _ (Same.refl _))
            | bl b => exact iteT (q _ (Same.refl _))
            | int s => exact iteT (q _ (Same.refl _))
            | str s => exact iteT (q _ (Same.refl _))
            | lst _ _ => exact iteT (q _ (Same.refl _))
      · rw [show (!decide (V.int (xs.length : Int) = V.int 3)) = true by
          rw [decide_eq_false fun e => l3 (by injection e with e; omega)]
          rfl]
        rw [no l3] at q
        refine iteT ?_
        refine iteT ?_
        exact q _ (Same.refl _)
end
end K19
end
section
namespace K19
open PySem L2 No RZ
/-! ### is_step, check_steps -/
theorem sl_world {ds : List PyData} (h : Ok1 ds) : True := trivial
theorem formOf_world : formOf "world" = none := by decide +kernel
section
variable {P : Program} {w : World} {K : PySem.W.Frag} {mg : Str → Option Value} {base : Heap}
theorem zip_get {α β : Type} {l : List α} {m : List β} {i : Nat} {p : α} {q : β} (h1 : l[i]? = some p) (h2 : m[i]? = some q) : (l.zip m)[i]? = some (p, q) := by
  rw [List.getElem?_zip_eq_some]
  exact ⟨h1, h2⟩
theorem ok_isSt {f fW fP cF : Addr} {fd fdW fdP : FuncData} (D : Dfn K mg "is_step" sis_step pis_step f fd) (B : Bi mg) (FG : mg "FORMS" = some (.ref cF)) (F : Fm K w cF) (DW : Dfn K mg "is_world_step" sis_world_step pis_world_step fW fdW) (GW : FnOk P w K mg base CX0 4 fW fdW pis_world_step (spWS K))
    (DP : Dfn K mg "is_part" sis_part pis_part fP fdP) (GP : FnOk P w K mg base CX0 3 fP fdP pis_part (spPart K)) : FnOk P w K mg base CX0 5 f fd pis_step (spStep K) := by
  have nd := scis_step.nd
  obtain ⟨es, nn, KD⟩ := F.kd
  refine D.F.ok scis_step (fun vs H Q E h => ?_) (fun cdv A outer s H vs Q E hr h => ?_)
  · obtain ⟨x, d, rfl, _⟩ := h
    rfl
  · obtain ⟨x, d, rfl, hx, ok, q⟩ := h
    have hr3 : Room 3 _ := hr.mono (by decide)
    refine ⟨_, pss_cons (ps_if (PW.pt (pw_or (pt_cmpR op_notTyB (pe_callTy call_type1 (by rfl) B.type (by decide +kernel) (pa_cons (pv 0) pa_nil)) (pe_bltn (v := .ty "tuple") (by rfl) B.tuple (by decide +kernel) rfl) (nomark _)) (pw_or (pt_cmpR op_eq (pe_callB call_len_seq (by rfl) B.len PySem.boot_len (pa_cons (pv 0) pa_nil)) pe_int (nomark _))
        (pw_or1 (pt_cmpR op_notTyB (pe_callTy call_type1 (by rfl) B.type (by decide +kernel) (pa_cons (pe_ix (r := rIxT K) ix_tup (pv 0) pe_int (fun _ _ => rfl)) pa_nil)) (pe_bltn (v := .ty "str") (by rfl) B.str (by decide +kernel) rfl) (nomark _)))))) (pss_one (ps_ret pe_bl)) pss_nil)
      (pss_cons (ps_if (pt_cmpR op_eq (pe_ix (r := rIxT K) ix_tup (pv 0) pe_int (fun _ _ => rfl)) pe_str (nomark _)) (pss_one (ps_ret (pe_call GW hr (by rfl) DW.g DW.F.kp DW.b .nil pass0 (pa_cons (pv 0) pa_nil)))) pss_nil)
      (pss_cons (ps_if (PW.pt (pw_or (pt_cmpR (op_notIn_kd KD) (pe_ix (r := rIxT K) ix_tup (pv 0) pe_int (fun _ _ => rfl)) (pe_glob (v := .ref cF) rfl FG rfl) (by rfl))
        (pw_or1 (pt_cmpR op_ne (pe_op op_sub (pe_callB call_len_seq (by rfl) B.len PySem.boot_len (pa_cons (pv 0) pa_nil)) pe_int) (pe_callB call_len_seq (by rfl) B.len PySem.boot_len (pa_cons (pe_ix ix_kdict (pe_glob (v := .ref cF) rfl FG rfl) (pe_ix (r := rIxT K) ix_tup (pv 0) pe_int (fun _ _ => rfl)) (fun _ _ => rfl)) pa_nil)) (nomark _))))) (pss_one (ps_ret pe_bl)) pss_nil)
      (pss_one (ps_ret (pe_callB (cr_all rfl) (by rfl) B.all (by decide +kernel) (pa_cons (pe_lc (own := [("kind", 1), ("part", 2)]) (g := gTup K 2 (gCons (gName 1) (gCons (gName 2) gNil))) (tt := tYes) (te := tCall (spPart K) [] E0 (tCons (tVar 1) (tCons (tVar 2) tNil))) rfl nd
        (pi_zipA (by rfl) B.zip (pa_cons (pe_ix ix_kdict (pe_glob (v := .ref cF) rfl FG rfl) (pe_ix (r := rIxT K) ix_tup (pv 0) pe_int (fun _ _ => rfl)) (fun _ _ => rfl)) (pa_cons (pe_slice sl_tupA (pv 0) (po_some pe_int) po_none) pa_nil))) (blkOk_by (N := nis_step) (sc := defScope sis_step) (by decide +kernel))
        (fun _ _ _ _ _ => by exact pg_tup (n := 2) rfl (pgs_cons (pg_name (i := 1) nd rfl (.inl rfl)) (pgs_cons (pg_name (i := 2) nd rfl (.inl rfl)) pgs_nil))) (fun _ _ _ _ _ => pts_nil) (fun _ _ _ _ _ => by exact (pe_call GP hr3 (by rfl) DP.g DP.F.kp DP.b .nil pass0 (pa_cons (pv 1) (pa_cons (pv 2) pa_nil))))) pa_nil)))))), ?_⟩
    refine ⟨_, rfl, _, _, rfl, dp_tyB hx, _, _, rfl, rfl, _, rfl, ?_⟩
    have hx0 := hx
    cases hx with
    | @tup a xs ds h t =>
      refine iteF ?_
      have xl := DpAll.len t
      refine ⟨_, rfl, a, xs, rfl, .inr h, rfl, _, rfl, ?_⟩
      match ds, xs, t, xl with
      | [], [], t, xl =>
        refine iteT ?_
        refine iteT ?_
        exact q _ (Same.refl _)
      | d0 :: r, x0 :: ys, .cons h0 t, xl =>
        have ok1 := ok _ rfl
        rw [show decide (V.int (((x0 :: ys).length : Nat) : Int) = V.int 0) = false from decide_eq_false fun e => by injection e with e; simp only [List.length_cons] at e; omega]
        refine iteF ?_
        refine ⟨_, rfl, a, _, _, _, rfl, rfl, h, at_of (j := 0) rfl rfl, _, _, rfl, dp_tyB h0, _, _, rfl, rfl, _, rfl, ?_⟩
        cases h0 with
        | str z =>
          refine iteF ?_
          refine ⟨_, rfl, a, _, _, _, rfl, rfl, h, at_of (j := 0) rfl rfl, rfl, _, rfl, ?_⟩
          by_cases hz : z = "world"
          · subst hz
            refine iteT ?_
            refine ⟨_, rfl, .ref a, _, rfl, hx0, ok1, fun H' s' => ?_⟩
            have := q H' s'
            rw [stepD_w] at this
            exact this
          · rw [show decide (V.str z = V.str "world") = false from decide_eq_false fun e => hz (V.str.inj e)]
            refine iteF ?_
            have q : ∀ H', Same H H' → Q (.bl (match formOf z with
                | none => false
                | some f => decide (r.length = f.length) && (f.zip r).all fun p => partD p.1 p.2)) H' := fun H' s' => by
              have := q H' s'
              have e : stepD (.tuple (.str z :: r)) = (match formOf z with
                | none => false
                | some f => decide (r.length = f.length) && (f.zip r).all fun p => partD p.1 p.2) := by
                show (if z = "world" then wsD (.str z :: r) else _) = _
                exact (if_neg hz).trans rfl
              rw [e] at this
              exact this
            cases hf : formOf z with
            | none =>
              rw [hf] at q
              refine ⟨_, rfl, a, _, _, _, rfl, rfl, h, at_of (j := 0) rfl rfl, z, none, rfl, rfl, F.no z hf, _, rfl, ?_⟩
              refine iteT ?_
              refine iteT ?_
              exact q _ (Same.refl _)
            | some fm =>
              rw [hf] at q
              obtain ⟨tA, hns, hsq⟩ := F.yes z fm hf
              obtain ⟨tA2, hdct, hsq2⟩ := F.dct hf
              refine ⟨_, rfl, a, _, _, _, rfl, rfl, h, at_of (j := 0) rfl rfl, z, _, rfl, rfl, hns, _, rfl, ?_⟩
              refine iteF ?_
              refine ⟨_, rfl, a, _, rfl, .inr h, _, _, rfl, rfl, ?_⟩
              refine ⟨_, rfl, a, _, _, _, rfl, rfl, h, at_of (j := 0) rfl rfl, cF, z, .ref tA2, rfl, rfl, hdct, tA2, _, rfl, .inr (hsq2 _), rfl, _, rfl, ?_⟩
              have yl := DpAll.len t
              have q : ∀ H', Same H H' → Q (.bl (decide (r.length = fm.length) && (fm.zip r).all fun p => partD p.1 p.2)) H' := q
              by_cases hl : r.length = fm.length
              · rw [decide_eq_true hl, Bool.true_and] at q
                rw [show (!decide (V.int ((((V.str z :: ys).length : Nat) : Int) - 1) = V.int (((fm.map fun k => V.str k.s).length : Nat) : Int))) = false by
                  rw [decide_eq_true (by congr 1; rw [List.length_map, List.length_cons]; omega)]
                  rfl]
                refine iteF ?_
                refine ⟨_, rfl, a, _, _, _, rfl, rfl, h, at_of (j := 0) rfl rfl, cF, z, .ref tA2, rfl, rfl, hdct, ?_⟩
                refine ⟨_, rfl, _, rfl, ?_⟩
                refine noPx ?_
                refine slT h (by simp) fun p H1 s1 hp => ?_
                have hp : SqT K H1 p ys := hp
                have rl : r.length ≤ 100000 := by have := ok1.1; simp only [List.length_cons] at this; omega
                refine ⟨tA2, p, _, _, rfl, .inr ⟨hsq2 _, hp, fun Dl hD => ?_⟩⟩
                have ht1 := DpAll.same s1 _ _ t
                refine lc_dat (walk_zipTT (K := K) (a := tA2) (b := p) (xs := fm.map fun k => V.str k.s) (ys := ys) (n := r.length) (by rw [List.length_map]; omega)) (K := K) (((fm.zip r).map fun p => partD p.1 p.2).map PyData.bool) hD (by rw [List.length_map, List.length_map, List.length_zip]; omega) rl (noLs_bl _) (fun H' s' => ⟨hsq2 _, Same.seqT s' hp⟩) ?_ ?_ gTup2_mono
                · rintro i y H4 H5 d R hi s4 ⟨tt, x1, x2, rfl, nt, rfl, e1, e2⟩ hR
                  obtain ⟨e, he, hye⟩ := dpa_at (DpAll.same s4 _ _ ht1) e2
                  have e1 : (fm.map fun k => V.str k.s)[i]? = some x1 := e1
                  rw [List.getElem?_map] at e1
                  obtain ⟨k, hk, rfl⟩ := Option.map_eq_some_iff.mp e1
                  rw [List.getElem?_map, List.getElem?_map, zip_get hk he] at hi
                  have hi := Option.some.inj hi
                  subst hi
                  have s5 : Same H4 (upd H4 tt (.tup [.str k.s, x2])) := Same.new nt
                  refine ⟨tt, [.str k.s, x2], rfl, .inl (.inl upd_same), rfl, _, _, rfl, _, _, rfl, rfl, rfl, ?_⟩
                  refine ⟨_, rfl, _, rfl, k, x2, e, rfl, Dp.same s5 _ _ hye, ok1.2.1 e (List.mem_cons_of_mem _ (List.mem_of_getElem? he)), ?_⟩
                  exact hR _ _ s5 (.bl _)
                · rintro H6 ys' s6 hd6 hys
                  rw [dpa_bl hys] at hd6
                  refine ⟨Dl, _, rfl, SqL.of hd6, ?_⟩
                  rw [show ((fm.zip r).map fun p => partD p.1 p.2).all id = (fm.zip r).all fun p => partD p.1 p.2 by rw [List.all_map]; rfl]
                  exact q _ (s1.trans s6)
              · rw [decide_eq_false hl, Bool.false_and] at q
                rw [show (!decide (V.int ((((V.str z :: ys).length : Nat) : Int) - 1) = V.int (((fm.map fun k => V.str k.s).length : Nat) : Int))) = true by
                  rw [decide_eq_false fun e => hl (by injection e with e; rw [List.length_map, List.length_cons] at e; omega)]
                  rfl]
                refine iteT ?_
                exact q _ (Same.refl _)
        | non => exact iteT (q _ (Same.refl _))
        | bl b => exact iteT (q _ (Same.refl _))
        | int s => exact iteT (q _ (Same.refl _))
        | lst _ _ => exact iteT (q _ (Same.refl _))
        | tup _ _ => exact iteT (q _ (Same.refl _))
    | non => exact iteT (iteT (q _ (Same.refl _)))
    | bl b => exact iteT (iteT (q _ (Same.refl _)))
    | int s => exact iteT (iteT (q _ (Same.refl _)))
    | str s => exact iteT (iteT (q _ (Same.refl _)))
    | lst _ _ => exact iteT (iteT (q _ (Same.refl _)))
end
end K19
end
section
namespace PySem
namespace WrI
open PySem.W PySem.Calls PyProof.Rows PySem.HandSPX
def iA (p1 p2 : Pos) : Arguments := { posonlyargs := [], args := [{ arg := "self", annotation := none, pos := p1 }, { arg := "index", annotation := none, pos := p2 }], vararg := none, kwonlyargs := [], kw_defaults := [], kwarg := none, defaults := [] }
def iB (tx : Str) (q1 q2 q3 q4 q5 q6 q7 q8 q9 r1 r2 r3 r4 : Pos) : List Stmt :=
  [.Expr (.Call (.Attribute (.Call (.Name "super" q1) [] [] q2) "__init__" q3) [.JoinedStr [.Constant (.str tx) 0 q4, .FormattedValue (.Name "index" q5) (-1) none q6] q7] [] q8) q9,
   .Assign [.Attribute (.Name "self" r1) "index" r2] (.Name "index" r3) r4]
def iS : Scope := { kind := .function, names := [(PySem.Str.ofString "self", .local), (PySem.Str.ofString "index", .local), (PySem.Str.ofString "__class__", .free), (PySem.Str.ofString "super", .globalImplicit)], isGenerator := false, isCoroutine := false, more := [] }
/-- what the written part says of the class at C, and of its __init__, at fI -/
structure WrTxt (P : Program) (K : Frag) (mg : Str → Option Value) (x : Str) (C fI : Addr) : Prop where
  gC : mg x = some (.ref C)
  cls : ∃ nm q N bs bm sn sub ab col dd k0 k1 k2 k3 k5, K.lookup C = some (excClassObj nm q C N bs bm true sn sub ab col dd k0 k1 k2 k3 k5 "ValueError.__new__") ∧ refsVE bm = true
  sa : findIn K (.ref C) "__setattr__" = some (some (.builtin "object.__setattr__"))
  ga : findIn K (.ref C) "__getattribute__" = some (some (.builtin "BaseException.__getattribute__"))
  gg : findIn K (.ref C) "__getattr__" = some none
  noN : findIn K (.ref C) "index" = some none
  iC : findIn K (.ref C) "__init__" = some (some (.ref fI))
  tC : typeIn K (.ref fI) = some (.type "function")
  kC : keepIn K (.ref C) = true
  exC : subIn K (.ref C) (.type "BaseException") = some true
  tyC : typeIn K (.ref C) = some (.type "type")
  hdC : hasDictIn K C = true
  su : ks_superIn K C C "__init__" = some (some (.builtin "ValueError.__init__"))
  opq : nsIn K cStatics "thirdparty.any" = some none
  msup : mg "super" = none
  top : (P.main.scope.names.lookup ("super" : Str)).isSome = false
  self : mroIn K C (.ref C) = some true
  inVE : subIn K (.ref C) (.type "ValueError") = some true
  fn : ∃ (oc : Value) (od : Option Addr) (q : Str) (doc pm : Value) (an : Option Addr) (cda cc : Addr) (ct : Value) (osl : Array (Option Value)) (tx : Str) (p1 p2 q1 q2 q3 q4 q5 q6 q7 q8 q9 r1 r2 r3 r4 : Pos)
    (ccl : Value) (cdd : Option Addr) (vs : Array Value) (ccs : Array (Option Value)) (file : Str) (tf : Tok) (cl : Value) (cld : Option Addr) (csl : Array (Option Value)),
    K.lookup fI = some ⟨oc, od, .func (ksFn "__init__" q (iA p1 p2) (iB tx q1 q2 q3 q4 q5 q6 q7 q8 q9 r1 r2 r3 r4) iS .none .none doc pm an (.ref cda) ct cc), osl⟩ ∧ codeIn K (.ref cda) q = true ∧
    K.lookup cda = some ⟨ccl, cdd, .fields vs, ccs⟩ ∧ vs[2]? = some (.str file tf) ∧ ((P.main.file : Str) == file) = true ∧ K.lookup cc = some ⟨cl, cld, .cell (some (.ref C)), csl⟩ ∧ tx.length ≤ 1000 ∧ (q3.endLine == q8.line) = true
/-- what __init__ leaves of a fresh exception at x -/
structure InitEnd (h h' : Heap) (x C dx t1 : Addr) (v : Value) : Prop where
  keep : ∀ b o, b ≠ x → h.get? b = some o → h'.get? b = some o
  obj : h'.get? x = some { cls := .ref C, dict := some dx, data := .fields #[.ref t1, .none, .none, .none, .bool false, .none] }
  dbig : h.objs.size ≤ dx
  dne : dx ≠ x
  ns : h'.Ns1 dx (fun y => if y = "index" then some v else none)
section
variable {prog : Program} {w : World} {A : Around} {E : Value → Shared → Prop} {R : Result → Shared → Prop} {s : Shared} {K : Frag} {mg : Str → Option Value} {xn : Str} {C fI : Addr}
theorem at_mcall {M : Model} {c : Code} {env : Env} {o : Expr} {name : Str} {apos pos : Pos} {args : List Expr} {Q : Value → Shared → Prop} (hline : (apos.endLine == pos.line) = true) (hform : methodCallForm (args.length + ([] : List Keyword).length) (backTo pos (starEach args env)) (backToKw pos (keywordEach [] env)) = true)
    (h : wpAt M A c (attributeBase o name env (eval o env)) (fun ov s₁ => wpAny M A (getMethod ov name (do return (← importBound o env).getD true)) (fun fx s₂ => wpAny M A (callWith pos fx.1 fx.2 (backTo pos (starEach args env)) []) Q E s₂) E s₁) E s) :
    wpAt M A c (eval (.Call (.Attribute o name apos) args [] pos) env) Q E s := by
  have hpos : methodCallPos true o env apos pos = pure pos := by unfold methodCallPos; simp [hline]
  rw [arm_eval_Call]
  refine wpAt_bind (wpAt_mono h (fun ov s₁ h₁ => wpAt_of_wpAny (wpAny_bind (wpAny_standAt ?_))) fun _ _ x => x)
  unfold methodCall
  rw [hform, hpos]
  refine wpAny_bind (wpAny_holding (wpAny_mono h₁ (fun fx s₂ h₂ => ?_) fun _ _ x => x))
  exact wpAny_bind (wpAny_pure h₂)
/-- ValueError.__init__ of the bound wrapper -/
theorem call_mw {u e t0 : Addr} {rest : List Value} {Q : Value → Shared → Prop} {h : Heap} {g : Array GenState} {d : Drawn} {t : Nat} {os : OsState}
    {nm q : Str} {N : Addr} {bs bm : List Value} {sn : List Str} {sub : List Value} {ab : Bool} {col : Option Bool} {dd : Option Addr} {k0 k1 k2 k3 k5 : Option Value}
    (hC : h.get? C = some (excClassObj nm q C N bs bm true sn sub ab col dd k0 k1 k2 k3 k5 "ValueError.__new__")) (he : h.get? e = some (excO C t0)) (hu : h.get? u = some (kxs_mw "ValueError.__init__" e)) (hrest : rest.length ≤ sizeLine)
    (hq : ∀ h' t1, (∀ b o, b ≠ e → h.get? b = some o → h'.get? b = some o) → h'.get? e = some (excO C t1) → Q .none ⟨h', g, d, t, os⟩) :
    wpAny (model prog w) A (call (.ref u) rest) Q E ⟨h, g, d, t, os⟩ := by
  refine wpAny_call (codeAny_of_tree ?_)
  show wpAny _ A.in1 (callAny (.ref u) ⟨rest, []⟩) _ _ _
  simp only [callAny]
  refine wpAny_bind (wpAny_load hu ?_)
  simp only [kxs_mw, show (Value.type "method-wrapper" == Value.type "method" || Value.type "method-wrapper" == Value.type "builtin_function_or_method" || Value.type "method-wrapper" == Value.type "method-wrapper") = true by decide, if_true]
  refine W.KFB.if_so (by decide) ?_
  refine wpAny_bind (check_bound_init F.excBase_ValueError.toExcCallFacts hC he rfl ?_)
  refine wpAny_bind (wpAny_pure (wpAny_pure ?_))
  refine ⟨plainId_quiet F.excBase_ValueError.init.plain _, codeAny_builtin F.excBase_ValueError.initEntry ?_⟩
  rw [Around.under_plainId F.excBase_ValueError.init.plain _]
  wp_walk
  refine hq _ h.objs.size (fun b o hb ho => ?_) ?_
  · rw [Heap.get?_update_other _ _ (Ne.symm hb)]
    exact Heap.get?_push_of_some _ ho
  · rw [Heap.get?_update_self _ (Heap.get?_push_of_some _ he) rfl]
    rfl

/-- __init__(self, index) of an int -/
theorem wrong_init (T : WrTxt prog K mg xn C fI) {x t0 : Addr} {n : Int} {tn : Tok} (X : K.In s.heap) (G : s.heap.Ns mainGlobals mg) (B : ∃ mb, s.heap.Ns builtinsNs mb ∧ ∀ x : Str, x ≠ "__name__" → mb x = bootBuiltins x)
    (hlim : s.heap.NoLimit) (hx : s.heap.get? x = some (excO C t0)) (hnx : K.lookup x = none) (hn : n.natAbs.log2 < 1920) (hroom : A.depth < recursionLimit)
    (hq : ∀ h' tk dx t1, InitEnd s.heap h' x C dx t1 (.int n tn) → R (.ok (.ret .none)) { s with heap := h', toks := tk }) :
    codeAny (model prog w) A (.call (.ref fI) ⟨[.ref x, .int n tn], []⟩) R s := by
  obtain ⟨oc, od, q, doc, pm, an, cda, cc, ct, osl, tx, p1, p2, q1, q2, q3, q4, q5, q6, q7, q8, q9, r1, r2, r3, r4, ccl, cdd, vs, ccs, file, tf, cl, cld, csl, ho, hcd, hcda, hvs, hfile, hcc, htx, hline⟩ := T.fn
  obtain ⟨nm, qn, N, bs, bm, sn, sub, ab, col, dd, k0, k1, k2, k3, k5, hC, hbm⟩ := T.cls
  have hcl : clsIn K C = some { name := nm, bases := bs, mro := .ref C :: bm, ns := N, qualname := qn, hasDict := true, slotNames := sn, subclasses := sub, abstract := ab, collection := col, hasDel := false } := by unfold clsIn; rw [hC] <;> rfl
  have I0 : InstAt s.heap x (excO C t0) C none := ⟨hx, rfl, rfl, trivial⟩
  have hxC : x ≠ C := ks_ne X I0 hcl
  refine ks_codeAny_call_defAt (fd := ksFn "__init__" q (iA p1 p2) (iB tx q1 q2 q3 q4 q5 q6 q7 q8 q9 r1 r2 r3 r4) iS .none .none doc pm an (.ref cda) ct cc) (body := iB tx q1 q2 q3 q4 q5 q6 q7 q8 q9 r1 r2 r3 r4) (binds := [("self", .ref x), ("index", .int n tn)])
    hroom (X _ _ ho) rfl hlim (codeRec_of X hcd) rfl (BindsTo.of_eq rfl) (by show ∀ x ∈ iS.names, x.2 ≠ .cell; decide) (locs rfl) (fun h₀ hns k₀ => ?_) rfl rfl rfl
  obtain ⟨hp, g, d, t, os⟩ := s
  have X₀ : K.In h₀ := X.keeps k₀
  have hx₀ := k₀ _ _ hx
  have hxL : hp.objs.size ≠ x := Nat.ne_of_gt (Heap.lt_size hx)
  -- super().__init__(f'..')
  refine ks_wpAt_execs_cons (ks_wpAt_Expr_any ?_)
  refine at_mcall hline rfl ?_
  refine ks_wpAt_super_base (env := callEnv (ksFn "__init__" q (iA p1 p2) (iB tx q1 q2 q3 q4 q5 q6 q7 q8 q9 r1 r2 r3 r4) iS .none .none doc pm an (.ref cda) ct cc) hp.objs.size fI) rfl rfl (by decide) rfl (X₀ _ _ ho) rfl rfl rfl (X₀ _ _ hcda) rfl hvs hfile T.top ?_
  obtain ⟨mb, hb, hmb⟩ := B
  refine ks_loadName_global rfl rfl (loadGlobal_builtin (v := .type "super") (Heap.Ns.keeps G k₀) T.msup (Heap.Ns.keeps hb k₀) ((hmb _ (by decide +kernel)).trans (by first | rfl | kernel_rfl)) ⟨rfl, ?_⟩)
  refine wpAny_loadName_free rfl rfl rfl ⟨_, X₀ _ _ hcc, rfl⟩ ?_
  refine wpAny_loadName_local rfl rfl hns (by first | rfl | with_unfolding_all rfl | kernel_rfl) ?_
  refine ks_wpAny_isType_cls (X₀ _ _ hC) rfl ⟨rfl, ?_⟩
  refine ks_wpAny_call_super (X₀ _ _ hC) rfl hx₀ rfl (fun c z => by cases z) (looks_mroIn X₀ T.self) (fun h₁ hso k₁ => ?_)
  have X₁ : K.In h₁ := X₀.keeps k₁
  have hx₁ := k₁ _ _ hx₀
  have hC₁ := X₁ _ _ hC
  have I1 : InstAt h₁ x (excO C t0) C none := ⟨hx₁, rfl, rfl, trivial⟩
  have hI : Looks (model prog w) h₁ (isInstance (.ref x) (.type "ValueError")) true := I1.type.andThen (looks_subIn X₁ T.inVE)
  have hm := T.su
  unfold ks_superIn at hm
  rw [hcl] at hm
  refine kxs_getMethod kxs_ValueError (d := d) (g := g) (os := os) hso (looks_opaque X₁ T.opq) (l₀ := .ref C :: bm) (fun A Q E s k q => wpAny_bind ((looks_clsIn X₁ hcl) A _ E s k (wpAny_pure q))) rfl X₁ hm hI hxC (by decide) ?_
  have hu : (h₁.push (kxs_mw "ValueError.__init__" x)).get? h₁.objs.size = some (kxs_mw "ValueError.__init__" x) := Heap.get?_push_at rfl rfl
  have k₂ : ∀ b o, h₁.get? b = some o → (h₁.push (kxs_mw "ValueError.__init__" x)).get? b = some o := fun b o e => Heap.get?_push_of_some _ e
  refine kxs_callWith (i := "ValueError.__init__") (x := x) rfl ?_
  refine evalArgs_plain (Calls.spliced_cons ?_)
  have hns₂ := (hns.keeps k₁).keeps k₂
  have hi : (Str.ofString (toString n)).length ≤ 1921 := by
    have e := int_text_length_le (k := 1920) (by decide) hn
    rw [ofString_length]
    exact e
  show wpAny _ _ (eval (.JoinedStr [.Constant (.str tx) 0 q4, .FormattedValue (.Name "index" q5) (-1) none q6] q7) _) _ _ _
  refine wpAny_JoinedStr ?_
  refine Calls.Constant_str ⟨tx, _, rfl, ?_, ?_⟩
  · rw [Str.length_append, sizeLine_eq]
    have : Str.empty.length = 0 := rfl
    omega
  refine wpAny_FormattedValue_plain (wpAny_Name (wpAny_loadName_local rfl rfl hns₂ (by first | rfl | with_unfolding_all rfl | kernel_rfl) (wpAny_formatField_int hn ⟨toString n, _, rfl, ?_, ?_⟩)) (by decide))
  · rw [Str.length_append, Str.length_append, sizeLine_eq]
    have : Str.empty.length = 0 := rfl
    omega
  refine ⟨?_, ?_⟩
  · rw [Str.length_append, Str.length_append, sizeLine_eq]
    have : Str.empty.length = 0 := rfl
    omega
  refine Calls.spliced_nil ?_
  show KxsAt _ _ _ _ ∧ wpAny _ _ (call _ _) _ _ _
  refine ⟨hu, ?_⟩
  refine call_mw (k₂ _ _ hC₁) (k₂ _ _ hx₁) hu (by show 1 ≤ sizeLine; rw [sizeLine_eq]; omega) (fun h₃ t1 k₃ hx₃ => ?_)
  have kc : ∀ b o, hp.get? b = some o → b ≠ x → h₃.get? b = some o := fun b o e n => k₃ b o n (k₂ b o (k₁ b o (k₀ b o e)))
  have X₃ : K.In h₃ := fun a o e => kc a o (X _ _ e) (fun z => by rw [z, hnx] at e; cases e)
  have hns₃ : h₃.Ns hp.objs.size _ := hns₂.at fun o e => k₃ _ o hxL e
  -- self.index = index
  show wpAt _ _ _ (execs _ _) _ _ _
  refine wpAt_of_wpAny ?_
  refine wpAny_execs_cons (plainObj_wpAny_Assign_Attribute ?_)
  refine wpAny_Name (wpAny_loadName_local rfl rfl hns₃ (by first | rfl | with_unfolding_all rfl | kernel_rfl) ?_) (by decide)
  refine wpAny_Name (wpAny_loadName_local rfl rfl hns₃ (by first | rfl | with_unfolding_all rfl | kernel_rfl) ?_) (by decide)
  refine set_plain X₃ (ox := excO C t1) (od := none) ⟨hx₃, rfl, rfl, trivial⟩ T.sa ?_
  refine exc_osa X₃ hx₃ hcl (show refsVE (.ref C :: bm) = true from hbm) rfl T.noN (fun h₄ tk₄ dx k₄ dn dne hx₄ hn₄ => ?_)
  show wpAny _ _ (execs _ _) _ _ _
  refine wpAny_execs_nil (hq h₄ tk₄ dx t1 ⟨fun b o hb e => k₄ b o hb (kc b o e hb), hx₄, ?_, dne, hn₄⟩)
  obtain ⟨oL, _, _, hoL, _⟩ := hns₃
  exact Nat.le_trans (Nat.le_of_lt (Heap.lt_size hoL)) dn

/-- a made error -/
structure OwnMade (h h' : Heap) (e C d : Addr) (v : Value) : Prop where
  keep : ∀ b o, h.get? b = some o → h'.get? b = some o
  new : h.objs.size ≤ e
  obj : ∃ oe vs, h'.get? e = some oe ∧ oe.cls = .ref C ∧ oe.dict = some d ∧ oe.data = .fields vs ∧ vs[1]? = some .none
  dbig : h.objs.size ≤ d
  dne : d ≠ e
  ns : h'.Ns1 d (fun y => if y = "index" then some v else none)
theorem wrong_made (T : WrTxt prog K mg xn C fI) {n : Int} {tn : Tok} (X : K.In s.heap) (G : s.heap.Ns mainGlobals mg) (B : ∃ mb, s.heap.Ns builtinsNs mb ∧ ∀ x : Str, x ≠ "__name__" → mb x = bootBuiltins x) (hlim : s.heap.NoLimit) (hn : n.natAbs.log2 < 1920) (hroom : A.depth + 1 < recursionLimit)
    (hq : ∀ h' tk e d, OwnMade s.heap h' e C d (.int n tn) → R (.ok (.ret (.ref e))) { s with heap := h', toks := tk }) :
    codeAny (model prog w) A (.call (.ref C) ⟨[.int n tn], []⟩) R s := by
  obtain ⟨nm, q, N, bs, bm, sn, sub, ab, col, dd, k0, k1, k2, k3, k5, hC, hbm⟩ := T.cls
  obtain ⟨hp, g, dr, tk, os⟩ := s
  have k : ∀ b o, hp.get? b = some o → ((hp.push (kdv_tup [.int n tn])).push (excO C hp.objs.size)).get? b = some o := fun b o e => Heap.get?_push_of_some _ (Heap.get?_push_of_some _ e)
  have hget : ((hp.push (kdv_tup [.int n tn])).push (excO C hp.objs.size)).get? (hp.objs.size + 1) = some (excO C hp.objs.size) := by heap_get
  have hnx : K.lookup (hp.objs.size + 1) = none := by
    cases e : K.lookup (hp.objs.size + 1) with
    | none => rfl
    | some o =>
      have z : hp.get? (hp.objs.size + 1) = some o := X _ _ e
      exact absurd (Nat.lt_of_succ_lt (Heap.lt_size z)) (Nat.lt_irrefl _)
  refine call_own F.excBase_ValueError (fun X => refsVE_contains X bm hbm) (X _ _ hC) (looks_findIn X T.iC) (fun self => bind_fn X self T.tC) (by show 1 ≤ sizeLine; rw [sizeLine_eq]; omega) ?_
  obtain ⟨mb, hb, hmb⟩ := B
  refine wrong_init (s := ⟨(hp.push (kdv_tup [.int n tn])).push (excO C hp.objs.size), g, dr, tk, os⟩) T (X.keeps k) (G.keeps k) ⟨mb, hb.keeps k, hmb⟩ (hlim.keeps k) hget hnx hn ?_ fun h' tk' dx t1 ⟨k', hx, dn, dne, hns⟩ => ?_
  · show A.depth + 1 < recursionLimit
    exact hroom
  · have old : ∀ b o, hp.get? b = some o → h'.get? b = some o := fun b o e => k' b o (Nat.ne_of_lt (Nat.lt_succ_of_lt (Heap.lt_size e))) (k b o e)
    have z : hp.objs.size + 1 + 1 ≤ dx := by
      first
        | (simpa only [Heap.size_push] using dn)
        | exact dn
        | (have q := dn; rw [Heap.size_push, Heap.size_push] at q; exact q)
    exact ⟨rfl, hq h' tk' (hp.objs.size + 1) dx ⟨old, Nat.le_succ _, ⟨_, _, hx, rfl, rfl, rfl, rfl⟩, Nat.le_trans (Nat.le_trans (Nat.le_succ _) (Nat.le_succ _)) z, dne, hns⟩⟩
end
end WrI
end PySem
namespace L2
open PySem PySem.Spec PyProof.Rows
theorem relO_wi {v : V} {v' : Value} (r : RelV v v') (f : Str) : RelO (List.lookup f [(("index" : Str), v)]) (if f = "index" then some v' else none) := by
  by_cases hw : f = "index"
  · subst hw
    rw [if_pos rfl]
    have q : List.lookup ("index" : Str) [(("index" : Str), v)] = some v := by simp [List.lookup]
    rw [q]
    exact r
  · rw [if_neg hw]
    have qw : (f == ("index" : Str)) = false := by simpa using hw
    have q2 : List.lookup f [(("index" : Str), v)] = none := by simp [List.lookup, qw]
    rw [q2]
    trivial
section
variable {X : Cx} {xn : Str} {C fI : Addr}
/-- Low(e) -/
def tMkWi (C : Addr) (ta : TA) : St → Hp → XK → Prop := fun σ H Q => ta σ H fun vs H1 => ∃ n : Int, vs = [.int n] ∧ n.natAbs.log2 < 1920 ∧ ∀ d, H1 d = none → Q (.ref C) (some d) (upd H1 d (.xd [(("index" : Str), .int n)]))
theorem pmk_wi {a : Expr} {ta : TA} {p pos : Pos} {k : Nat} (T : PySem.WrI.WrTxt X.prog X.K X.mg xn C fI) (hr : Room k X.A) (ha : PA X [a] ta) (hg : Gl X xn := by rfl) (hdb : (xn == ("__debug__" : Str)) = false := by decide)
    (he : starEach (a :: []) X.env = (false, eval a X.env) :: starEach [] X.env := by rfl) (hpl : (backTo pos (starEach [] X.env)).any (·.1) = false := by rfl) :
    PMk X (.Call (.Name xn p) [a] [] pos) (tMkWi C ta) := by
  intro pins s σ H Q I h
  refine wpAny_Call_Name_kw (ld_glob I hg T.gC ?_ hdb)
  refine PySem.W.callWith_K (h₀ := X.base) I.ok.mod.kin T.kC (thn (ha.run pos pins s σ H _ I h) fun us s1 hh => ?_) he hpl
  obtain ⟨vs, H1, I1, r1, n, ev, hn, q1⟩ := hh
  subst ev
  refine ⟨I1.kIn, ?_⟩
  cases r1 with
  | cons rv rn =>
    rename_i v' us'
    cases rn
    obtain ⟨tn, rfl⟩ := rv
    show wpAny _ _ (call (.ref C) [.int n tn]) _ _ _
    have hlim := I1.nolimit
    obtain ⟨hp, g, dr, tk, os⟩ := s1
    refine wpAny_call (PySem.WrI.wrong_made T I1.kIn (I1.mod.glob.keeps I1.bk) (by obtain ⟨mb, hb, hmb⟩ := I1.mod.blt; exact ⟨mb, hb.keeps I1.bk, hmb⟩) hlim hn (by have := hr.dp; omega) fun h' tk' e d M => ?_)
    show MkP X pins σ Q (.ref e) ⟨h', g, dr, tk', os⟩
    obtain ⟨oe, fv, hoe, hc, hd, hdat, h1⟩ := M.obj
    have hns := M.ns
    obtain ⟨G', g1, g2⟩ := restrict h' fun b => decide (b ≠ e)
    have gk : ∀ b, b ≠ e → G'.get? b = h'.get? b := fun b hb => g1 b (decide_eq_true hb)
    have ge : G'.get? e = none := g2 e (by simp)
    have old : ∀ b o, hp.get? b = some o → G'.get? b = some o := fun b o q => (gk b (Nat.ne_of_lt (Nat.lt_of_lt_of_le (Heap.lt_size q) M.new))).trans (M.keep b o q)
    have ob : ObjOk X.prog X.w (upd H1 d (.xd [(("index" : Str), .int n)])) G' d (.xd [(("index" : Str), .int n)]) :=
      ⟨_, hns.at (fun o q => (gk d M.dne).trans q), fun f => relO_wi (v := .int n) ⟨tn, rfl⟩ f⟩
    have J : Inv X pins σ (upd H1 d (.xd [(("index" : Str), .int n)])) ⟨G', g, dr, tk', os⟩ := I1.laid (t' := tk') old M.dbig ob
    refine ⟨e, oe, fv, ⟨G', g, dr, tk', os⟩, _, .ref C, some d, rfl, J, fun b o q => ?_, ge, hoe, ⟨hc, hd⟩, hdat, h1, ?_, rfl, I1.bare, raises_own T.exC T.tyC, q1 d (I1.hok.fresh M.dbig)⟩
    · by_cases hb : b = e
      · have q' : G'.get? b = some o := q
        rw [hb, ge] at q'; cases q'
      · exact (gk b hb).symm.trans q
    · rw [upd_ne (Ne.symm M.dne)]
      exact I1.hok.fresh M.new
/-- raise Low(e) -/
def tRaiseWi (C : Addr) (W : WX) (ta : TA) : TS := fun _ σ H => tMkWi C ta σ H fun cls d H' => W cls d σ H'
theorem ps_raiseWi {a : Expr} {ta : TA} {W : WX} {p pos pos2 : Pos} {k : Nat} (hc : X.calm = true) (T : PySem.WrI.WrTxt X.prog X.K X.mg xn C fI) (hr : Room k X.A) (tk : Takes X W) (ha : PA X [a] ta) (hg : Gl X xn := by rfl) (hdb : (xn == ("__debug__" : Str)) = false := by decide)
    (he : starEach (a :: []) X.env = (false, eval a X.env) :: starEach [] X.env := by rfl) (hpl : (backTo pos (starEach [] X.env)).any (·.1) = false := by rfl) :
    PS X (.Raise (some (.Call (.Name xn p) [a] [] pos)) none pos2) (tRaiseWi C W ta) := ps_raise hc tk (pmk_wi T hr ha hg hdb he hpl)
/-- low.by, low the exception that the suite holds (at a; its class cls, its dict d) -/
def tByWi (C : Addr) (a : Addr) (cls : Value) (d : Option Addr) (te : TE) : TE := fun σ H Q => te σ H fun x H1 => x = .ref a ∧ cls = .ref C ∧ ∃ (dd : Addr) (v : V), d = some dd ∧ H1 dd = some (.xd [(("index" : Str), v)]) ∧ Q v H1
theorem pe_byWi {a : Addr} {oe : Obj} {cls : Value} {d : Option Addr} {pn : List (Addr × Obj)} {e : Expr} {te : TE} {pos : Pos} (T : PySem.WrI.WrTxt X.prog X.K X.mg xn C fI) (hz : Zc cls d oe) (hf : ∃ vs, oe.data = .fields vs) (he : PE (X.suite a ((a, oe) :: pn)) e te)
    (hb : attributeBase e "index" X.env (eval e X.env) = eval e X.env := by rfl) :
    PE (X.suite a ((a, oe) :: pn)) (.Attribute e "index" pos) (tByWi C a cls d te) := by
  refine ⟨fun pins s σ H Q I h => ?_⟩
  refine attr_of hb (thn (he.run pins s σ H _ I h) fun u s1 hh => ?_)
  obtain ⟨x, H1, I1, rx, ex, ec, dd, v, ed, ea, q⟩ := hh
  subst ex
  obtain rfl : u = Value.ref a := rx
  subst ec
  subst ed
  obtain ⟨ha, _⟩ := I1.pin (a, oe) (List.mem_append_left _ List.mem_cons_self)
  obtain ⟨vs, hd⟩ := hf
  have hx : ObjOk X.prog X.w H1 s1.heap dd (.xd [(("index" : Str), v)]) := I1.hok dd _ ea
  obtain ⟨mA, hns, hr⟩ := hx
  obtain ⟨od, ho, hl⟩ := lookIn_ns hns
  have l : List.lookup ("index" : Str) [(("index" : Str), v)] = some v := by simp [List.lookup]
  obtain ⟨u, hu, ru⟩ := RelO.some_of (v := v) (o := mA "index") (by rw [← l]; exact hr "index")
  have J : PySem.W.InstAt s1.heap a oe C (some od) := ⟨ha, hz.1, by unfold PySem.W.notCls; rw [hd] <;> rfl, by rw [hz.2]; exact ho⟩
  exact HandSPX.exc_get I1.kIn J T.ga T.gg T.exC (PySem.W.findObj_own T.hdC T.noN rfl (by rw [hl, hu])) (handed_of ru) ⟨v, H1, I1.tok _, ru, q⟩
end
end L2

end
section
namespace PySem
namespace WrN
open PySem.W PySem.Calls PyProof.Rows PySem.HandSPX
def iA (p1 p2 : Pos) : Arguments := { posonlyargs := [], args := [{ arg := "self", annotation := none, pos := p1 }, { arg := "index", annotation := none, pos := p2 }], vararg := none, kwonlyargs := [], kw_defaults := [], kwarg := none, defaults := [] }
def iB (tx : Str) (q1 q2 q3 q4 q5 q6 q7 q8 q9 r1 r2 r3 r4 : Pos) : List Stmt :=
  [.Expr (.Call (.Attribute (.Call (.Name "super" q1) [] [] q2) "__init__" q3) [.JoinedStr [.Constant (.str tx) 0 q4, .FormattedValue (.Name "index" q5) (-1) none q6] q7] [] q8) q9,
   .Assign [.Attribute (.Name "self" r1) "index" r2] (.Name "index" r3) r4]
def iS : Scope := { kind := .function, names := [(PySem.Str.ofString "self", .local), (PySem.Str.ofString "index", .local), (PySem.Str.ofString "__class__", .free), (PySem.Str.ofString "super", .globalImplicit)], isGenerator := false, isCoroutine := false, more := [] }
/-- what the written part says of the class at C, and of its __init__, at fI -/
structure WrTxt (P : Program) (K : Frag) (mg : Str → Option Value) (x : Str) (C fI : Addr) : Prop where
  gC : mg x = some (.ref C)
  cls : ∃ nm q N bs bm sn sub ab col dd k0 k1 k2 k3 k5, K.lookup C = some (excClassObj nm q C N bs bm true sn sub ab col dd k0 k1 k2 k3 k5 "ValueError.__new__") ∧ refsVE bm = true
  sa : findIn K (.ref C) "__setattr__" = some (some (.builtin "object.__setattr__"))
  ga : findIn K (.ref C) "__getattribute__" = some (some (.builtin "BaseException.__getattribute__"))
  gg : findIn K (.ref C) "__getattr__" = some none
  noN : findIn K (.ref C) "index" = some none
  iC : findIn K (.ref C) "__init__" = some (some (.ref fI))
  tC : typeIn K (.ref fI) = some (.type "function")
  kC : keepIn K (.ref C) = true
  exC : subIn K (.ref C) (.type "BaseException") = some true
  tyC : typeIn K (.ref C) = some (.type "type")
  hdC : hasDictIn K C = true
  su : ks_superIn K C C "__init__" = some (some (.builtin "ValueError.__init__"))
  opq : nsIn K cStatics "thirdparty.any" = some none
  msup : mg "super" = none
  top : (P.main.scope.names.lookup ("super" : Str)).isSome = false
  self : mroIn K C (.ref C) = some true
  inVE : subIn K (.ref C) (.type "ValueError") = some true
  fn : ∃ (oc : Value) (od : Option Addr) (q : Str) (doc pm : Value) (an : Option Addr) (cda cc : Addr) (ct : Value) (osl : Array (Option Value)) (tx : Str) (p1 p2 q1 q2 q3 q4 q5 q6 q7 q8 q9 r1 r2 r3 r4 : Pos)
    (ccl : Value) (cdd : Option Addr) (vs : Array Value) (ccs : Array (Option Value)) (file : Str) (tf : Tok) (cl : Value) (cld : Option Addr) (csl : Array (Option Value)),
    K.lookup fI = some ⟨oc, od, .func (ksFn "__init__" q (iA p1 p2) (iB tx q1 q2 q3 q4 q5 q6 q7 q8 q9 r1 r2 r3 r4) iS .none .none doc pm an (.ref cda) ct cc), osl⟩ ∧ codeIn K (.ref cda) q = true ∧
    K.lookup cda = some ⟨ccl, cdd, .fields vs, ccs⟩ ∧ vs[2]? = some (.str file tf) ∧ ((P.main.file : Str) == file) = true ∧ K.lookup cc = some ⟨cl, cld, .cell (some (.ref C)), csl⟩ ∧ tx.length ≤ 1000 ∧ (q3.endLine == q8.line) = true
/-- what __init__ leaves of a fresh exception at x -/
structure InitEnd (h h' : Heap) (x C dx t1 : Addr) (v : Value) : Prop where
  keep : ∀ b o, b ≠ x → h.get? b = some o → h'.get? b = some o
  obj : h'.get? x = some { cls := .ref C, dict := some dx, data := .fields #[.ref t1, .none, .none, .none, .bool false, .none] }
  dbig : h.objs.size ≤ dx
  dne : dx ≠ x
  ns : h'.Ns1 dx (fun y => if y = "index" then some v else none)
section
variable {prog : Program} {w : World} {A : Around} {E : Value → Shared → Prop} {R : Result → Shared → Prop} {s : Shared} {K : Frag} {mg : Str → Option Value} {xn : Str} {C fI : Addr}
theorem at_mcall {M : Model} {c : Code} {env : Env} {o : Expr} {name : Str} {apos pos : Pos} {args : List Expr} {Q : Value → Shared → Prop} (hline : (apos.endLine == pos.line) = true) (hform : methodCallForm (args.length + ([] : List Keyword).length) (backTo pos (starEach args env)) (backToKw pos (keywordEach [] env)) = true)
    (h : wpAt M A c (attributeBase o name env (eval o env)) (fun ov s₁ => wpAny M A (getMethod ov name (do return (← importBound o env).getD true)) (fun fx s₂ => wpAny M A (callWith pos fx.1 fx.2 (backTo pos (starEach args env)) []) Q E s₂) E s₁) E s) :
    wpAt M A c (eval (.Call (.Attribute o name apos) args [] pos) env) Q E s := by
  have hpos : methodCallPos true o env apos pos = pure pos := by unfold methodCallPos; simp [hline]
  rw [arm_eval_Call]
  refine wpAt_bind (wpAt_mono h (fun ov s₁ h₁ => wpAt_of_wpAny (wpAny_bind (wpAny_standAt ?_))) fun _ _ x => x)
  unfold methodCall
  rw [hform, hpos]
  refine wpAny_bind (wpAny_holding (wpAny_mono h₁ (fun fx s₂ h₂ => ?_) fun _ _ x => x))
  exact wpAny_bind (wpAny_pure h₂)
/-- ValueError.__init__ of the bound wrapper -/
theorem call_mw {u e t0 : Addr} {rest : List Value} {Q : Value → Shared → Prop} {h : Heap} {g : Array GenState} {d : Drawn} {t : Nat} {os : OsState}
    {nm q : Str} {N : Addr} {bs bm : List Value} {sn : List Str} {sub : List Value} {ab : Bool} {col : Option Bool} {dd : Option Addr} {k0 k1 k2 k3 k5 : Option Value}
    (hC : h.get? C = some (excClassObj nm q C N bs bm true sn sub ab col dd k0 k1 k2 k3 k5 "ValueError.__new__")) (he : h.get? e = some (excO C t0)) (hu : h.get? u = some (kxs_mw "ValueError.__init__" e)) (hrest : rest.length ≤ sizeLine)
    (hq : ∀ h' t1, (∀ b o, b ≠ e → h.get? b = some o → h'.get? b = some o) → h'.get? e = some (excO C t1) → Q .none ⟨h', g, d, t, os⟩) :
    wpAny (model prog w) A (call (.ref u) rest) Q E ⟨h, g, d, t, os⟩ := by
  refine wpAny_call (codeAny_of_tree ?_)
  show wpAny _ A.in1 (callAny (.ref u) ⟨rest, []⟩) _ _ _
  simp only [callAny]
  refine wpAny_bind (wpAny_load hu ?_)
  simp only [kxs_mw, show (Value.type "method-wrapper" == Value.type "method" || Value.type "method-wrapper" == Value.type "builtin_function_or_method" || Value.type "method-wrapper" == Value.type "method-wrapper") = true by decide, if_true]
  refine W.KFB.if_so (by decide) ?_
  refine wpAny_bind (check_bound_init F.excBase_ValueError.toExcCallFacts hC he rfl ?_)
  refine wpAny_bind (wpAny_pure (wpAny_pure ?_))
  refine ⟨plainId_quiet F.excBase_ValueError.init.plain _, codeAny_builtin F.excBase_ValueError.initEntry ?_⟩
  rw [Around.under_plainId F.excBase_ValueError.init.plain _]
  wp_walk
  refine hq _ h.objs.size (fun b o hb ho => ?_) ?_
  · rw [Heap.get?_update_other _ _ (Ne.symm hb)]
    exact Heap.get?_push_of_some _ ho
  · rw [Heap.get?_update_self _ (Heap.get?_push_of_some _ he) rfl]
    rfl

/-- __init__(self, place) of an int -/
theorem wrong_init (T : WrTxt prog K mg xn C fI) {x t0 : Addr} (X : K.In s.heap) (G : s.heap.Ns mainGlobals mg) (B : ∃ mb, s.heap.Ns builtinsNs mb ∧ ∀ x : Str, x ≠ "__name__" → mb x = bootBuiltins x)
    (hlim : s.heap.NoLimit) (hx : s.heap.get? x = some (excO C t0)) (hnx : K.lookup x = none) (hroom : A.depth < recursionLimit)
    (hq : ∀ h' tk dx t1, InitEnd s.heap h' x C dx t1 (.none) → R (.ok (.ret .none)) { s with heap := h', toks := tk }) :
    codeAny (model prog w) A (.call (.ref fI) ⟨[.ref x, .none], []⟩) R s := by
  obtain ⟨oc, od, q, doc, pm, an, cda, cc, ct, osl, tx, p1, p2, q1, q2, q3, q4, q5, q6, q7, q8, q9, r1, r2, r3, r4, ccl, cdd, vs, ccs, file, tf, cl, cld, csl, ho, hcd, hcda, hvs, hfile, hcc, htx, hline⟩ := T.fn
  obtain ⟨nm, qn, N, bs, bm, sn, sub, ab, col, dd, k0, k1, k2, k3, k5, hC, hbm⟩ := T.cls
  have hcl : clsIn K C = some { name := nm, bases := bs, mro := .ref C :: bm, ns := N, qualname := qn, hasDict := true, slotNames := sn, subclasses := sub, abstract := ab, collection := col, hasDel := false } := by unfold clsIn; rw [hC] <;> rfl
  have I0 : InstAt s.heap x (excO C t0) C none := ⟨hx, rfl, rfl, trivial⟩
  have hxC : x ≠ C := ks_ne X I0 hcl
  refine ks_codeAny_call_defAt (fd := ksFn "__init__" q (iA p1 p2) (iB tx q1 q2 q3 q4 q5 q6 q7 q8 q9 r1 r2 r3 r4) iS .none .none doc pm an (.ref cda) ct cc) (body := iB tx q1 q2 q3 q4 q5 q6 q7 q8 q9 r1 r2 r3 r4) (binds := [("self", .ref x), ("index", .none)])
    hroom (X _ _ ho) rfl hlim (codeRec_of X hcd) rfl (BindsTo.of_eq rfl) (by show ∀ x ∈ iS.names, x.2 ≠ .cell; decide) (locs rfl) (fun h₀ hns k₀ => ?_) rfl rfl rfl
  obtain ⟨hp, g, d, t, os⟩ := s
  have X₀ : K.In h₀ := X.keeps k₀
  have hx₀ := k₀ _ _ hx
  have hxL : hp.objs.size ≠ x := Nat.ne_of_gt (Heap.lt_size hx)
  -- super().__init__(f'..')
  refine ks_wpAt_execs_cons (ks_wpAt_Expr_any ?_)
  refine at_mcall hline rfl ?_
  refine ks_wpAt_super_base (env := callEnv (ksFn "__init__" q (iA p1 p2) (iB tx q1 q2 q3 q4 q5 q6 q7 q8 q9 r1 r2 r3 r4) iS .none .none doc pm an (.ref cda) ct cc) hp.objs.size fI) rfl rfl (by decide) rfl (X₀ _ _ ho) rfl rfl rfl (X₀ _ _ hcda) rfl hvs hfile T.top ?_
  obtain ⟨mb, hb, hmb⟩ := B
  refine ks_loadName_global rfl rfl (loadGlobal_builtin (v := .type "super") (Heap.Ns.keeps G k₀) T.msup (Heap.Ns.keeps hb k₀) ((hmb _ (by decide +kernel)).trans (by first | rfl | kernel_rfl)) ⟨rfl, ?_⟩)
  refine wpAny_loadName_free rfl rfl rfl ⟨_, X₀ _ _ hcc, rfl⟩ ?_
  refine wpAny_loadName_local rfl rfl hns (by first | rfl | with_unfolding_all rfl | kernel_rfl) ?_
  refine ks_wpAny_isType_cls (X₀ _ _ hC) rfl ⟨rfl, ?_⟩
  refine ks_wpAny_call_super (X₀ _ _ hC) rfl hx₀ rfl (fun c z => by cases z) (looks_mroIn X₀ T.self) (fun h₁ hso k₁ => ?_)
  have X₁ : K.In h₁ := X₀.keeps k₁
  have hx₁ := k₁ _ _ hx₀
  have hC₁ := X₁ _ _ hC
  have I1 : InstAt h₁ x (excO C t0) C none := ⟨hx₁, rfl, rfl, trivial⟩
  have hI : Looks (model prog w) h₁ (isInstance (.ref x) (.type "ValueError")) true := I1.type.andThen (looks_subIn X₁ T.inVE)
  have hm := T.su
  unfold ks_superIn at hm
  rw [hcl] at hm
  refine kxs_getMethod kxs_ValueError (d := d) (g := g) (os := os) hso (looks_opaque X₁ T.opq) (l₀ := .ref C :: bm) (fun A Q E s k q => wpAny_bind ((looks_clsIn X₁ hcl) A _ E s k (wpAny_pure q))) rfl X₁ hm hI hxC (by decide) ?_
  have hu : (h₁.push (kxs_mw "ValueError.__init__" x)).get? h₁.objs.size = some (kxs_mw "ValueError.__init__" x) := Heap.get?_push_at rfl rfl
  have k₂ : ∀ b o, h₁.get? b = some o → (h₁.push (kxs_mw "ValueError.__init__" x)).get? b = some o := fun b o e => Heap.get?_push_of_some _ e
  refine kxs_callWith (i := "ValueError.__init__") (x := x) rfl ?_
  refine evalArgs_plain (Calls.spliced_cons ?_)
  have hns₂ := (hns.keeps k₁).keeps k₂
  have hi : (Str.ofString "None").length ≤ 1921 := by decide
  show wpAny _ _ (eval (.JoinedStr [.Constant (.str tx) 0 q4, .FormattedValue (.Name "index" q5) (-1) none q6] q7) _) _ _ _
  refine wpAny_JoinedStr ?_
  refine Calls.Constant_str ⟨tx, _, rfl, ?_, ?_⟩
  · rw [Str.length_append, sizeLine_eq]
    have : Str.empty.length = 0 := rfl
    omega
  refine wpAny_FormattedValue_plain (wpAny_Name (wpAny_loadName_local rfl rfl hns₂ (by first | rfl | with_unfolding_all rfl | kernel_rfl) (wpAny_formatField_none ⟨_, _, rfl, ?_, ?_⟩)) (by decide))
  · rw [Str.length_append, Str.length_append, sizeLine_eq]
    have : Str.empty.length = 0 := rfl
    omega
  refine ⟨?_, ?_⟩
  · rw [Str.length_append, Str.length_append, sizeLine_eq]
    have : Str.empty.length = 0 := rfl
    omega
  refine Calls.spliced_nil ?_
  show KxsAt _ _ _ _ ∧ wpAny _ _ (call _ _) _ _ _
  refine ⟨hu, ?_⟩
  refine call_mw (k₂ _ _ hC₁) (k₂ _ _ hx₁) hu (by show 1 ≤ sizeLine; rw [sizeLine_eq]; omega) (fun h₃ t1 k₃ hx₃ => ?_)
  have kc : ∀ b o, hp.get? b = some o → b ≠ x → h₃.get? b = some o := fun b o e n => k₃ b o n (k₂ b o (k₁ b o (k₀ b o e)))
  have X₃ : K.In h₃ := fun a o e => kc a o (X _ _ e) (fun z => by rw [z, hnx] at e; cases e)
  have hns₃ : h₃.Ns hp.objs.size _ := hns₂.at fun o e => k₃ _ o hxL e
  -- self.place = place
  show wpAt _ _ _ (execs _ _) _ _ _
  refine wpAt_of_wpAny ?_
  refine wpAny_execs_cons (plainObj_wpAny_Assign_Attribute ?_)
  refine wpAny_Name (wpAny_loadName_local rfl rfl hns₃ (by first | rfl | with_unfolding_all rfl | kernel_rfl) ?_) (by decide)
  refine wpAny_Name (wpAny_loadName_local rfl rfl hns₃ (by first | rfl | with_unfolding_all rfl | kernel_rfl) ?_) (by decide)
  refine set_plain X₃ (ox := excO C t1) (od := none) ⟨hx₃, rfl, rfl, trivial⟩ T.sa ?_
  refine exc_osa X₃ hx₃ hcl (show refsVE (.ref C :: bm) = true from hbm) rfl T.noN (fun h₄ tk₄ dx k₄ dn dne hx₄ hn₄ => ?_)
  show wpAny _ _ (execs _ _) _ _ _
  refine wpAny_execs_nil (hq h₄ tk₄ dx t1 ⟨fun b o hb e => k₄ b o hb (kc b o e hb), hx₄, ?_, dne, hn₄⟩)
  obtain ⟨oL, _, _, hoL, _⟩ := hns₃
  exact Nat.le_trans (Nat.le_of_lt (Heap.lt_size hoL)) dn

/-- a made error -/
structure OwnMade (h h' : Heap) (e C d : Addr) (v : Value) : Prop where
  keep : ∀ b o, h.get? b = some o → h'.get? b = some o
  new : h.objs.size ≤ e
  obj : ∃ oe vs, h'.get? e = some oe ∧ oe.cls = .ref C ∧ oe.dict = some d ∧ oe.data = .fields vs ∧ vs[1]? = some .none
  dbig : h.objs.size ≤ d
  dne : d ≠ e
  ns : h'.Ns1 d (fun y => if y = "index" then some v else none)
theorem wrong_made (T : WrTxt prog K mg xn C fI) (X : K.In s.heap) (G : s.heap.Ns mainGlobals mg) (B : ∃ mb, s.heap.Ns builtinsNs mb ∧ ∀ x : Str, x ≠ "__name__" → mb x = bootBuiltins x) (hlim : s.heap.NoLimit) (hroom : A.depth + 1 < recursionLimit)
    (hq : ∀ h' tk e d, OwnMade s.heap h' e C d (.none) → R (.ok (.ret (.ref e))) { s with heap := h', toks := tk }) :
    codeAny (model prog w) A (.call (.ref C) ⟨[.none], []⟩) R s := by
  obtain ⟨nm, q, N, bs, bm, sn, sub, ab, col, dd, k0, k1, k2, k3, k5, hC, hbm⟩ := T.cls
  obtain ⟨hp, g, dr, tk, os⟩ := s
  have k : ∀ b o, hp.get? b = some o → ((hp.push (kdv_tup [.none])).push (excO C hp.objs.size)).get? b = some o := fun b o e => Heap.get?_push_of_some _ (Heap.get?_push_of_some _ e)
  have hget : ((hp.push (kdv_tup [.none])).push (excO C hp.objs.size)).get? (hp.objs.size + 1) = some (excO C hp.objs.size) := by heap_get
  have hnx : K.lookup (hp.objs.size + 1) = none := by
    cases e : K.lookup (hp.objs.size + 1) with
    | none => rfl
    | some o =>
      have z : hp.get? (hp.objs.size + 1) = some o := X _ _ e
      exact absurd (Nat.lt_of_succ_lt (Heap.lt_size z)) (Nat.lt_irrefl _)
  refine call_own F.excBase_ValueError (fun X => refsVE_contains X bm hbm) (X _ _ hC) (looks_findIn X T.iC) (fun self => bind_fn X self T.tC) (by show 1 ≤ sizeLine; rw [sizeLine_eq]; omega) ?_
  obtain ⟨mb, hb, hmb⟩ := B
  refine wrong_init (s := ⟨(hp.push (kdv_tup [.none])).push (excO C hp.objs.size), g, dr, tk, os⟩) T (X.keeps k) (G.keeps k) ⟨mb, hb.keeps k, hmb⟩ (hlim.keeps k) hget hnx ?_ fun h' tk' dx t1 ⟨k', hx, dn, dne, hns⟩ => ?_
  · show A.depth + 1 < recursionLimit
    exact hroom
  · have old : ∀ b o, hp.get? b = some o → h'.get? b = some o := fun b o e => k' b o (Nat.ne_of_lt (Nat.lt_succ_of_lt (Heap.lt_size e))) (k b o e)
    have z : hp.objs.size + 1 + 1 ≤ dx := by
      first
        | (simpa only [Heap.size_push] using dn)
        | exact dn
        | (have q := dn; rw [Heap.size_push, Heap.size_push] at q; exact q)
    exact ⟨rfl, hq h' tk' (hp.objs.size + 1) dx ⟨old, Nat.le_succ _, ⟨_, _, hx, rfl, rfl, rfl, rfl⟩, Nat.le_trans (Nat.le_trans (Nat.le_succ _) (Nat.le_succ _)) z, dne, hns⟩⟩
end
end WrN
end PySem
namespace L2
open PySem PySem.Spec PyProof.Rows
theorem relO_wn {v : V} {v' : Value} (r : RelV v v') (f : Str) : RelO (List.lookup f [(("index" : Str), v)]) (if f = "index" then some v' else none) := by
  by_cases hw : f = "index"
  · subst hw
    rw [if_pos rfl]
    have q : List.lookup ("index" : Str) [(("index" : Str), v)] = some v := by simp [List.lookup]
    rw [q]
    exact r
  · rw [if_neg hw]
    have qw : (f == ("index" : Str)) = false := by simpa using hw
    have q2 : List.lookup f [(("index" : Str), v)] = none := by simp [List.lookup, qw]
    rw [q2]
    trivial
section
variable {X : Cx} {xn : Str} {C fI : Addr}
/-- Low(e) -/
def tMkWn (C : Addr) (ta : TA) : St → Hp → XK → Prop := fun σ H Q => ta σ H fun vs H1 => vs = [.non] ∧ ∀ d, H1 d = none → Q (.ref C) (some d) (upd H1 d (.xd [(("index" : Str), V.non)]))
theorem pmk_wn {a : Expr} {ta : TA} {p pos : Pos} {k : Nat} (T : PySem.WrN.WrTxt X.prog X.K X.mg xn C fI) (hr : Room k X.A) (ha : PA X [a] ta) (hg : Gl X xn := by rfl) (hdb : (xn == ("__debug__" : Str)) = false := by decide)
    (he : starEach (a :: []) X.env = (false, eval a X.env) :: starEach [] X.env := by rfl) (hpl : (backTo pos (starEach [] X.env)).any (·.1) = false := by rfl) :
    PMk X (.Call (.Name xn p) [a] [] pos) (tMkWn C ta) := by
  intro pins s σ H Q I h
  refine wpAny_Call_Name_kw (ld_glob I hg T.gC ?_ hdb)
  refine PySem.W.callWith_K (h₀ := X.base) I.ok.mod.kin T.kC (thn (ha.run pos pins s σ H _ I h) fun us s1 hh => ?_) he hpl
  obtain ⟨vs, H1, I1, r1, ev, q1⟩ := hh
  subst ev
  refine ⟨I1.kIn, ?_⟩
  cases r1 with
  | cons rv rn =>
    rename_i v' us'
    cases rn
    cases rv
    show wpAny _ _ (call (.ref C) [.none]) _ _ _
    have hlim := I1.nolimit
    obtain ⟨hp, g, dr, tk, os⟩ := s1
    refine wpAny_call (PySem.WrN.wrong_made T I1.kIn (I1.mod.glob.keeps I1.bk) (by obtain ⟨mb, hb, hmb⟩ := I1.mod.blt; exact ⟨mb, hb.keeps I1.bk, hmb⟩) hlim (by have := hr.dp; omega) fun h' tk' e d M => ?_)
    show MkP X pins σ Q (.ref e) ⟨h', g, dr, tk', os⟩
    obtain ⟨oe, fv, hoe, hc, hd, hdat, h1⟩ := M.obj
    have hns := M.ns
    obtain ⟨G', g1, g2⟩ := restrict h' fun b => decide (b ≠ e)
    have gk : ∀ b, b ≠ e → G'.get? b = h'.get? b := fun b hb => g1 b (decide_eq_true hb)
    have ge : G'.get? e = none := g2 e (by simp)
    have old : ∀ b o, hp.get? b = some o → G'.get? b = some o := fun b o q => (gk b (Nat.ne_of_lt (Nat.lt_of_lt_of_le (Heap.lt_size q) M.new))).trans (M.keep b o q)
    have ob : ObjOk X.prog X.w (upd H1 d (.xd [(("index" : Str), V.non)])) G' d (.xd [(("index" : Str), V.non)]) :=
      ⟨_, hns.at (fun o q => (gk d M.dne).trans q), fun f => relO_wn (v := V.non) rfl f⟩
    have J : Inv X pins σ (upd H1 d (.xd [(("index" : Str), V.non)])) ⟨G', g, dr, tk', os⟩ := I1.laid (t' := tk') old M.dbig ob
    refine ⟨e, oe, fv, ⟨G', g, dr, tk', os⟩, _, .ref C, some d, rfl, J, fun b o q => ?_, ge, hoe, ⟨hc, hd⟩, hdat, h1, ?_, rfl, I1.bare, raises_own T.exC T.tyC, q1 d (I1.hok.fresh M.dbig)⟩
    · by_cases hb : b = e
      · have q' : G'.get? b = some o := q
        rw [hb, ge] at q'; cases q'
      · exact (gk b hb).symm.trans q
    · rw [upd_ne (Ne.symm M.dne)]
      exact I1.hok.fresh M.new
/-- raise Low(e) -/
def tRaiseWn (C : Addr) (W : WX) (ta : TA) : TS := fun _ σ H => tMkWn C ta σ H fun cls d H' => W cls d σ H'
theorem ps_raiseWn {a : Expr} {ta : TA} {W : WX} {p pos pos2 : Pos} {k : Nat} (hc : X.calm = true) (T : PySem.WrN.WrTxt X.prog X.K X.mg xn C fI) (hr : Room k X.A) (tk : Takes X W) (ha : PA X [a] ta) (hg : Gl X xn := by rfl) (hdb : (xn == ("__debug__" : Str)) = false := by decide)
    (he : starEach (a :: []) X.env = (false, eval a X.env) :: starEach [] X.env := by rfl) (hpl : (backTo pos (starEach [] X.env)).any (·.1) = false := by rfl) :
    PS X (.Raise (some (.Call (.Name xn p) [a] [] pos)) none pos2) (tRaiseWn C W ta) := ps_raise hc tk (pmk_wn T hr ha hg hdb he hpl)
end
end L2
end
section
namespace K19
open PySem L2 No RZ
/-! ### check_steps -/
def BdN (C : Addr) (H : Hp) (E : XK) : Prop := ∀ (d : Addr) (H' : Hp), Same H H' → H' d = some (.xd [(("index" : Str), V.non)]) → E (.ref C) (some d) H'
def BdI (C : Addr) (k : Nat) (H : Hp) (E : XK) : Prop := ∀ (d : Addr) (H' : Hp), Same H H' → H' d = some (.xd [(("index" : Str), V.int (k : Int))]) → E (.ref C) (some d) H'
abbrev scheck_steps : Stmt := top 37
abbrev ncheck_steps : List Str := ["steps", "index", "step"]
abbrev pcheck_steps : List Str := ["steps"]
theorem sccheck_steps : FnScope ncheck_steps pcheck_steps (defScope scheck_steps) := ⟨rfl, rfl, rfl, by decide +kernel, rfl, by decide +kernel, by decide +kernel⟩
def Ok3 (d : PyData) : Prop := ∀ ds, d = .tuple ds → ds.length ≤ 100000 ∧ ∀ e, e ∈ ds → Ok0 e
def spCSt (K : PySem.W.Frag) (C : Addr) : Sp := fun vs H Q E => ∃ (x : V) (d : PyData), vs = [x] ∧ Dp K H x d ∧ Ok3 d ∧ (csO d = none → ∀ H', Same H H' → Q .non H') ∧ (csO d = some none → BdN C H E) ∧ (∀ k, csO d = some (some k) → BdI C k H E)
theorem fbS_step {i : Nat} {d : PyData} {r : List PyData} : fbS i (d :: r) = if (!stepD d || (isWd d != decide (i = 0))) = true then some i else fbS (i + 1) r := rfl
theorem smallN {n : Nat} (h : n ≤ 100000) : ((n : Nat) : Int).natAbs.log2 < 1920 := by
  have h2 : ((n : Nat) : Int).natAbs < 2 ^ 1920 := Nat.lt_of_lt_of_le (show ((n : Nat) : Int).natAbs < 2 ^ 63 by omega) (Nat.pow_le_pow_right (by decide) (by decide))
  by_cases z : ((n : Nat) : Int).natAbs = 0
  · rw [z]
    decide
  · exact (Nat.log2_lt z).mpr h2
theorem bne_V (a b : Bool) : (!decide (V.bl a = V.bl b)) = (a != b) := by cases a <;> cases b <;> rfl
theorem stepD_shape {d : PyData} (h : stepD d = true) : ∃ z r, d = .tuple (.str z :: r) := by
  match d, h with
  | .tuple (.str z :: r), _ => exact ⟨z, r, rfl⟩
  | .none, h => cases h
  | .bool _, h => cases h
  | .int _, h => cases h
  | .str _, h => cases h
  | .list _, h => cases h
  | .dict _, h => cases h
  | .tuple [], h => cases h
  | .tuple (.none :: _), h => cases h
  | .tuple (.bool _ :: _), h => cases h
  | .tuple (.int _ :: _), h => cases h
  | .tuple (.list _ :: _), h => cases h
  | .tuple (.tuple _ :: _), h => cases h
  | .tuple (.dict _ :: _), h => cases h
section
variable {P : Program} {w : World} {K : PySem.W.Frag} {mg : Str → Option Value} {base : Heap}
theorem ok_cst {f fS C fI : Addr} {fd fdS : FuncData} (D : Dfn K mg "check_steps" scheck_steps pcheck_steps f fd) (B : Bi mg) (en : mg "enumerate" = none) (MS : ∃ t, mg "MOST_STEPS" = some (.int 200 t)) (TI : PySem.WrI.WrTxt P K mg "BadSteps" C fI) (TN : PySem.WrN.WrTxt P K mg "BadSteps" C fI)
    (DS : Dfn K mg "is_step" sis_step pis_step fS fdS) (GS : FnOk P w K mg base CX0 5 fS fdS pis_step (spStep K)) : FnOk P w K mg base (L2.CX P w) 6 f fd pcheck_steps (spCSt K C) := by
  have nd := sccheck_steps.nd
  obtain ⟨tm, hms⟩ := MS
  refine D.F.okX sccheck_steps (fun vs H Q E h => ?_) (fun cdv A outer s0 H vs Q E hr h => ?_)
  · obtain ⟨x, d, rfl, _⟩ := h
    rfl
  · obtain ⟨x, d, rfl, hx, ok, q0, q1, q2⟩ := h
    refine ⟨_, pss_cons (ps_if (PW.pt (pw_or (pt_cmpR op_notTyB (pe_callTy call_type1 (by rfl) B.type (by decide +kernel) (pa_cons (pv 0) pa_nil)) (pe_bltn (v := .ty "tuple") (by rfl) B.tuple (by decide +kernel) rfl) (nomark _)) (pw_or1 (pt_not (pt_chain op_le op_le pe_int (pe_callB call_len_seq (by rfl) B.len PySem.boot_len (pa_cons (pv 0) pa_nil)) (pe_glob (v := .int 200) rfl hms ⟨_, rfl⟩))))))
        (pss_one (ps_raiseWn rfl TN hr (takes_of rfl rfl rfl rfl) (by exact (pa_cons pe_non pa_nil)) (by rfl))) pss_nil)
      (pss_one (ps_for (passes_of rfl) rfl (EnT.pi_enumT (by rfl) en (pa_cons (pv 0) pa_nil)) (pg_tup rfl (pgs_cons (pg_name (i := 1) nd rfl (.inl rfl)) (pgs_cons (pg_name (i := 2) nd rfl (.inl rfl)) pgs_nil)))
        (pss_one (ps_if (PW.pt (pw_or (pt_not (pt_val (pe_call GS hr (by rfl) DS.g DS.F.kp DS.b .nil pass0 (pa_cons (pv 2) pa_nil)))) (pw_or1 (pt_cmpR op_ne (pe_cmpR op_eq (pe_ix (r := rIxT K) ix_tup (pv 2) pe_int (fun _ _ => rfl)) pe_str (nomark _)) (pe_cmpR op_eq (pv 1) pe_int (nomark _)) (nomark _)))))
          (pss_one (ps_raiseWi rfl TI hr (takes_of rfl rfl rfl rfl) (by exact (pa_cons (pv 1) pa_nil)) (by rfl))) pss_nil)))), ?_⟩
    refine ⟨_, rfl, _, _, rfl, dp_tyB hx, _, _, rfl, rfl, _, rfl, ?_⟩
    cases hx with
    | @tup a xs ds h t =>
      refine iteF ?_
      have xl := DpAll.len t
      obtain ⟨ol, ok⟩ := ok ds rfl
      have c0 : csO (.tuple ds) = if 1 ≤ ds.length ∧ ds.length ≤ 200 then (fbS 0 ds).map some else some none := rfl
      refine ⟨_, rfl, a, xs, rfl, .inr h, _, _, rfl, rfl, _, rfl, ?_⟩
      by_cases l1 : 1 ≤ ds.length
      · rw [decide_eq_true (show (1 : Int) ≤ ((xs.length : Nat) : Int) by omega)]
        refine iteT ?_
        refine ⟨_, _, rfl, rfl, _, rfl, ?_⟩
        by_cases l2 : ds.length ≤ 200
        · rw [decide_eq_true (show ((xs.length : Nat) : Int) ≤ 200 by omega)]
          rw [if_pos ⟨l1, l2⟩] at c0
          rw [c0] at q0 q1 q2
          refine iteF ?_
          refine ⟨_, rfl, a, _, rfl, h, ?_⟩
          refine EnT.for_enT (K := K) (a := a) (xs := xs) (fun i σ H1 => ∃ (v1 v2 : Option V), σ = [some (.ref a), v1, v2] ∧ Same H H1 ∧ fbS 0 ds = fbS i (ds.drop i)) ⟨none, none, rfl, Same.refl _, by rw [List.drop_zero]⟩ (fun k σ H6 h6 => by obtain ⟨_, _, _, s6, _⟩ := h6; exact Same.seqT s6 h) ?_ ?_
          · rintro i x Tt σ H1 hx ⟨v1, v2, rfl, s1, hfb⟩ nT
            obtain ⟨e, he, hxe⟩ := dpa_at (DpAll.same s1 _ _ t) hx
            have s2 := s1.trans (Same.new (o := .tup [.int (i : Nat), x]) nT)
            have hi : i < ds.length := (List.getElem?_eq_some_iff.mp he).1
            have hdr : ds.drop i = e :: ds.drop (i + 1) := by
              rw [List.drop_eq_getElem_cons hi]
              congr 1
              exact (List.getElem?_eq_some_iff.mp he).2
            rw [hdr, fbS_step] at hfb
            refine ⟨Tt, [V.int (i : Int), x], rfl, .inl (.inl upd_same), rfl, _, _, rfl, _, _, rfl, rfl, ?_⟩
            have hxe2 := Dp.same (Same.new (o := .tup [.int (i : Nat), x]) nT) _ _ hxe
            generalize upd H1 Tt (.tup [.int (i : Nat), x]) = H2 at s2 hxe2
            refine ⟨_, rfl, x, e, rfl, hxe2, ok e (List.mem_of_getElem? he), fun H3 s3 => ⟨_, rfl, ?_⟩⟩
            cases hst : stepD e with
            | false =>
              rw [hst] at hfb
              refine iteT ?_
              refine iteT ?_
              exact ⟨_, rfl, (i : Int), rfl, smallN (by omega), fun dd hdd => q2 i (by rw [hfb]; rfl) dd _ ((s2.trans s3).trans (Same.new hdd)) upd_same⟩
            | true =>
              rw [hst] at hfb
              refine iteF ?_
              obtain ⟨z, r, rfl⟩ := stepD_shape hst
              have hxe3 := Dp.same s3 _ _ hxe2
              cases hxe3 with
              | @tup a2 xs2 _ h2 t2 =>
                cases t2 with
                | cons h3 t3 =>
                  cases h3 with
                  | str =>
                    refine ⟨_, rfl, a2, _, _, _, rfl, rfl, h2, at_of (j := 0) rfl rfl, rfl, _, rfl, rfl, rfl, _, rfl, ?_⟩
                    have ew : (!decide (V.bl (decide (V.str z = V.str "world")) = V.bl (decide (V.int (i : Int) = V.int 0)))) = (isWd (.tuple (.str z :: r)) != decide (i = 0)) := by
                      rw [bne_V]
                      congr 1
                      · show _ = decide (z = "world")
                        rw [decide_eq_decide]
                        exact ⟨fun e => V.str.inj e, fun e => by rw [e]⟩
                      · rw [decide_eq_decide]
                        exact ⟨fun e => by injection e with e; omega, fun e => by rw [e]; rfl⟩
                    rw [ew]
                    cases hb : isWd (.tuple (.str z :: r)) != decide (i = 0) with
                    | true =>
                      rw [hb] at hfb
                      refine iteT ?_
                      exact ⟨_, rfl, (i : Int), rfl, smallN (by omega), fun dd hdd => q2 i (by rw [hfb]; rfl) dd _ ((s2.trans s3).trans (Same.new hdd)) upd_same⟩
                    | false =>
                      rw [hb] at hfb
                      refine iteF ?_
                      exact ⟨_, _, rfl, s2.trans s3, hfb⟩
          · rintro σ H1 ⟨v1, v2, rfl, s1, hfb⟩
            rw [List.drop_of_length_le (by omega)] at hfb
            exact q0 (by rw [hfb]; rfl) _ s1
        · rw [decide_eq_false (show ¬ ((xs.length : Nat) : Int) ≤ 200 by omega)]
          rw [if_neg fun h => l2 h.2] at c0
          refine iteT ?_
          exact ⟨rfl, fun d hd => q1 c0 d _ (Same.new hd) upd_same⟩
      · rw [decide_eq_false (show ¬ (1 : Int) ≤ ((xs.length : Nat) : Int) by omega)]
        rw [if_neg fun h => l1 h.1] at c0
        refine iteF ?_
        refine ⟨_, rfl, ?_⟩
        refine iteT ?_
        exact ⟨rfl, fun d hd => q1 c0 d _ (Same.new hd) upd_same⟩
    | non => exact iteT (iteT ⟨rfl, fun d hd => q1 rfl d _ (Same.new hd) upd_same⟩)
    | bl b => exact iteT (iteT ⟨rfl, fun d hd => q1 rfl d _ (Same.new hd) upd_same⟩)
    | int s => exact iteT (iteT ⟨rfl, fun d hd => q1 rfl d _ (Same.new hd) upd_same⟩)
    | str s => exact iteT (iteT ⟨rfl, fun d hd => q1 rfl d _ (Same.new hd) upd_same⟩)
    | lst _ _ => exact iteT (iteT ⟨rfl, fun d hd => q1 rfl d _ (Same.new hd) upd_same⟩)
end
end K19
end
section
namespace K19
open PySem L2 No RZ
/-! ### parts of steps told and read -/
abbrev spart_word : Stmt := top 38
abbrev npart_word : List Str := ["kind", "part"]
abbrev ppart_word : List Str := ["kind", "part"]
theorem scpart_word : FnScope npart_word ppart_word (defScope spart_word) := ⟨rfl, rfl, rfl, by decide +kernel, rfl, by decide +kernel, by decide +kernel⟩
def spPW (K : PySem.W.Frag) : Sp := fun vs H Q _ => ∃ (k : Kd) (x : V) (d : PyData), vs = [.str k.s, x] ∧ Dp K H x d ∧ GP k d ∧ Q (.str (st (partW k d))) H
abbrev sis_part_word : Stmt := top 40
abbrev nis_part_word : List Str := ["kind", "word"]
abbrev pis_part_word : List Str := ["kind", "word"]
theorem scis_part_word : FnScope nis_part_word pis_part_word (defScope sis_part_word) := ⟨rfl, rfl, rfl, by decide +kernel, rfl, by decide +kernel, by decide +kernel⟩
def spIPW : Sp := fun vs H Q _ => ∃ (k : Kd) (x : Str), vs = [.str k.s, .str x] ∧ x.length ≤ 100000 ∧ Q (.bl (partWd k (cl x))) H
abbrev spart_told : Stmt := top 41
abbrev npart_told : List Str := ["kind", "word"]
abbrev ppart_told : List Str := ["kind", "word"]
theorem scpart_told : FnScope npart_told ppart_told (defScope spart_told) := ⟨rfl, rfl, rfl, by decide +kernel, rfl, by decide +kernel, by decide +kernel⟩
def spPTd : Sp := fun vs H Q _ => ∃ (k : Kd) (x : Str), vs = [.str k.s, .str x] ∧ x.length ≤ 100000 ∧ Q (partTv k (cl x)) H
abbrev slink_told : Stmt := top 42
abbrev nlink_told : List Str := ["word", "one", "_", "two", "pair"]
abbrev plink_told : List Str := ["word"]
theorem sclink_told : FnScope nlink_told plink_told (defScope slink_told) := ⟨rfl, rfl, rfl, by decide +kernel, rfl, by decide +kernel, by decide +kernel⟩
/-- an answer of data, or None -/
def Ans (K : PySem.W.Frag) (o : Option PyData) (H : Hp) (Q : VK) : Prop := ∀ (v : V) (H' : Hp), Same H H' → Dp K H' v (o.getD .none) → Q v H'
def spLkT (K : PySem.W.Frag) : Sp := fun vs H Q _ => ∃ x : Str, vs = [.str x] ∧ x.length ≤ 100000 ∧ Ans K (linkTd (cl x)) H Q
theorem dp_vN (K : PySem.W.Frag) (H : Hp) : ∀ o : Option Nat, Dp K H (vN o) (fl (vN o))
  | none => .non
  | some n => .int _
theorem dp_vT (K : PySem.W.Frag) (H : Hp) : ∀ o : Option (List Nat), Dp K H (vT o) (fl (vT o))
  | none => .non
  | some n => .str _
theorem dp_vI (K : PySem.W.Frag) (H : Hp) : ∀ o : Option Int, Dp K H (vI o) (fl (vI o))
  | none => .non
  | some n => .int _
theorem dp_part (K : PySem.W.Frag) (H : Hp) (k : Kd) (l : List Nat) : Dp K H (partTv k l) (fl (partTv k l)) := by
  cases k with
  | c => exact dp_vN K H _
  | k => exact dp_vT K H _
  | v =>
    show Dp K H (valT l) (fl (valT l))
    unfold valT
    split
    · exact .non
    · split
      · exact dp_vI K H _
      · exact dp_vT K H _
theorem txtT_len {l t : List Nat} (h : txtT l = some t) : t.length ≤ 200 := by
  unfold txtT at h
  split at h
  · cases h
  · split at h
    · cases h
    · split at h
      · cases h
      · split at h
        · rename_i e
          rw [← Option.some.inj h]
          unfold sgOk at e
          rw [Bool.and_eq_true, Bool.and_eq_true, decide_eq_true_eq, decide_eq_true_eq] at e
          exact e.2.1
        · cases h
theorem cntD_vN (o : Option Nat) : cntD (fl (vN o)) = match o with
    | none => false
    | some n => decide (n ≤ 1048576) := by
  cases o with
  | none => rfl
  | some n =>
    show decide (0 ≤ (n : Int) ∧ (n : Int) ≤ 1048576) = decide (n ≤ 1048576)
    rw [decide_eq_decide]
    omega
theorem kd_ite (k : Kd) : True := trivial
section
variable {P : Program} {w : World} {K : PySem.W.Frag} {mg : Str → Option Value} {base : Heap}
theorem ok_pw {f fT fV : Addr} {fd fdT fdV : FuncData} (D : Dfn K mg "part_word" spart_word ppart_word f fd) (B : Bi mg) (DT : Dfn K mg "text_word" stext_word ptext_word fT fdT) (GT : FnOk P w K mg base CX0 1 fT fdT ptext_word spTW)
    (DV : Dfn K mg "value_word" svalue_word pvalue_word fV fdV) (GV : FnOk P w K mg base CX0 2 fV fdV pvalue_word (spVW K)) : FnOk P w K mg base CX0 3 f fd ppart_word (spPW K) := by
  have nd := scpart_word.nd
  refine D.F.ok scpart_word (fun vs H Q E h => ?_) (fun cdv A outer s H vs Q E hr h => ?_)
  · obtain ⟨k, x, d, rfl, _⟩ := h
    rfl
  · obtain ⟨k, x, d, rfl, hx, hg, q⟩ := h
    have hr1 : Room 1 _ := hr.mono (by decide)
    refine ⟨_, pss_cons (ps_if (pt_cmpR op_eq (pv 0) pe_str (nomark _)) (pss_one (ps_ret (pe_callTy call_str_int (by rfl) B.str (by decide +kernel) (pa_cons (pv 1) pa_nil)))) pss_nil)
      (pss_one (ps_ret (pe_ifExp (pt_cmpR op_eq (pv 0) pe_str (nomark _)) (pe_call GT hr1 (by rfl) DT.g DT.F.kp DT.b .nil pass0 (pa_cons (pv 1) pa_nil)) (pe_call GV hr (by rfl) DV.g DV.F.kp DV.b .nil pass0 (pa_cons (pv 1) pa_nil))))), ?_⟩
    refine ⟨_, rfl, rfl, _, rfl, ?_⟩
    rw [kd_c, kd_dec]
    cases k with
    | c =>
      refine iteT ?_
      obtain ⟨n, rfl, hn⟩ := hg
      cases hx
      refine ⟨_, rfl, _, rfl, small_int (by omega) (by omega), ?_⟩
      have e : Str.ofString (toString (n : Int)) = st (partW .c (.int (n : Int))) := by
        apply cl_inj
        rw [cl_int, cl_st]
        rfl
      rw [← e] at q
      exact q
    | k =>
      refine iteF ?_
      refine ⟨_, rfl, rfl, _, rfl, ?_⟩
      rw [kd_k, kd_dec]
      refine iteT ?_
      obtain ⟨l, rfl, h1, h2, h3⟩ := hg
      cases hx
      exact ⟨_, rfl, tx l, rfl, by rw [tx_len]; omega, q⟩
    | v =>
      refine iteF ?_
      refine ⟨_, rfl, rfl, _, rfl, ?_⟩
      rw [kd_k, kd_dec]
      refine iteF ?_
      obtain ⟨u, rfl, hu⟩ := hg
      refine ⟨_, rfl, x, uD u, rfl, hx, ?_, q⟩
      cases u with
      | non => exact trivial
      | int i => exact hu
      | txt l =>
        show (tx l).length ≤ 10000
        rw [tx_len]
        have := hu.2
        omega
theorem ok_ipw {f fC fI fX fK fV : Addr} {fd fdC fdI fdX fdK fdV : FuncData} (D : Dfn K mg "is_part_word" sis_part_word pis_part_word f fd) (DC : Dfn K mg "is_count" sis_count pis_count fC fdC) (GC : FnOk P w K mg base CX0 2 fC fdC pis_count (spCntD K))
    (DI : Dfn K mg "count_told" scount_told pcount_told fI fdI) (GI : FnOk P w K mg base CX0 2 fI fdI pcount_told spCntT) (DX : Dfn K mg "text_told" stext_told ptext_told fX fdX) (GX : FnOk P w K mg base CX0 2 fX fdX ptext_told spTxtT)
    (DK : Dfn K mg "is_key" sis_key pis_key fK fdK) (GK : FnOk P w K mg base CX0 2 fK fdK pis_key (spKeyA K)) (DV : Dfn K mg "is_value_word" sis_value_word pis_value_word fV fdV) (GV : FnOk P w K mg base CX0 4 fV fdV pis_value_word spIVW) : FnOk P w K mg base CX0 5 f fd pis_part_word spIPW := by
  have nd := scis_part_word.nd
  refine D.F.ok scis_part_word (fun vs H Q E h => ?_) (fun cdv A outer s H vs Q E hr h => ?_)
  · obtain ⟨k, x, rfl, _⟩ := h
    rfl
  · obtain ⟨k, x, rfl, hl, q⟩ := h
    have hr2 : Room 2 _ := hr.mono (by decide)
    refine ⟨_, pss_cons (ps_if (pt_cmpR op_eq (pv 0) pe_str (nomark _)) (pss_one (ps_ret (pe_call GC hr2 (by rfl) DC.g DC.F.kp DC.b .nil pass0 (pa_cons (pe_call GI hr2 (by rfl) DI.g DI.F.kp DI.b .nil pass0 (pa_cons (pv 1) pa_nil)) pa_nil)))) pss_nil)
      (pss_one (ps_ret (pe_ifExp (pt_cmpR op_eq (pv 0) pe_str (nomark _)) (pe_call GK hr2 (by rfl) DK.g DK.F.kp DK.b .nil pass0 (pa_cons (pe_call GX hr2 (by rfl) DX.g DX.F.kp DX.b .nil pass0 (pa_cons (pv 1) pa_nil)) pa_nil)) (pe_call GV hr (by rfl) DV.g DV.F.kp DV.b .nil pass0 (pa_cons (pv 1) pa_nil))))), ?_⟩
    refine ⟨_, rfl, rfl, _, rfl, ?_⟩
    rw [kd_c, kd_dec]
    cases k with
    | c =>
      refine iteT ?_
      refine ⟨_, rfl, x, rfl, hl, _, _, rfl, dp_vN K H _, ?_⟩
      rw [cntD_vN]
      exact q
    | k =>
      refine iteF ?_
      refine ⟨_, rfl, rfl, _, rfl, ?_⟩
      rw [kd_k, kd_dec]
      refine iteT ?_
      refine ⟨_, rfl, x, rfl, hl, _, _, rfl, dp_vT K H _, ?_, ?_⟩
      · intro s' hs
        cases ht : txtT (cl x) with
        | none => rw [ht] at hs; cases hs
        | some t =>
          rw [ht] at hs
          cases hs
          rw [st_len]
          have := txtT_len ht
          omega
      · have e : sgD (fl (vT (txtT (cl x)))) 1 40 = partWd .k (cl x) := by
          dsimp only [partWd]
          cases txtT (cl x) with
          | none => rfl
          | some t => rfl
        rw [e]
        exact q
    | v =>
      refine iteF ?_
      refine ⟨_, rfl, rfl, _, rfl, ?_⟩
      rw [kd_k, kd_dec]
      refine iteF ?_
      exact ⟨_, rfl, x, rfl, hl, q⟩
theorem ok_ptd {f fI fX fV : Addr} {fd fdI fdX fdV : FuncData} (D : Dfn K mg "part_told" spart_told ppart_told f fd)
    (DI : Dfn K mg "count_told" scount_told pcount_told fI fdI) (GI : FnOk P w K mg base CX0 2 fI fdI pcount_told spCntT) (DX : Dfn K mg "text_told" stext_told ptext_told fX fdX) (GX : FnOk P w K mg base CX0 2 fX fdX ptext_told spTxtT)
    (DV : Dfn K mg "value_told" svalue_told pvalue_told fV fdV) (GV : FnOk P w K mg base CX0 4 fV fdV pvalue_told spVT) : FnOk P w K mg base CX0 5 f fd ppart_told spPTd := by
  have nd := scpart_told.nd
  refine D.F.ok scpart_told (fun vs H Q E h => ?_) (fun cdv A outer s H vs Q E hr h => ?_)
  · obtain ⟨k, x, rfl, _⟩ := h
    rfl
  · obtain ⟨k, x, rfl, hl, q⟩ := h
    have hr2 : Room 2 _ := hr.mono (by decide)
    refine ⟨_, pss_cons (ps_if (pt_cmpR op_eq (pv 0) pe_str (nomark _)) (pss_one (ps_ret (pe_call GI hr2 (by rfl) DI.g DI.F.kp DI.b .nil pass0 (pa_cons (pv 1) pa_nil)))) pss_nil)
      (pss_one (ps_ret (pe_ifExp (pt_cmpR op_eq (pv 0) pe_str (nomark _)) (pe_call GX hr2 (by rfl) DX.g DX.F.kp DX.b .nil pass0 (pa_cons (pv 1) pa_nil)) (pe_call GV hr (by rfl) DV.g DV.F.kp DV.b .nil pass0 (pa_cons (pv 1) pa_nil))))), ?_⟩
    refine ⟨_, rfl, rfl, _, rfl, ?_⟩
    rw [kd_c, kd_dec]
    cases k with
    | c =>
      refine iteT ?_
      exact ⟨_, rfl, x, rfl, hl, q⟩
    | k =>
      refine iteF ?_
      refine ⟨_, rfl, rfl, _, rfl, ?_⟩
      rw [kd_k, kd_dec]
      refine iteT ?_
      exact ⟨_, rfl, x, rfl, hl, q⟩
    | v =>
      refine iteF ?_
      refine ⟨_, rfl, rfl, _, rfl, ?_⟩
      rw [kd_k, kd_dec]
      refine iteF ?_
      exact ⟨_, rfl, x, rfl, hl, q⟩
/-- the pair of counts that two words tell -/
def pairTd (a b : Option Nat) : Option PyData := match (a, b) with
  | (some a, some b) => if a ≤ 1048576 ∧ b ≤ 1048576 then some (.tuple [.int (a : Int), .int (b : Int)]) else none
  | _ => none
theorem par_len : ∀ {S acc l a b : List Nat}, TL.par S acc l = some (a, b) → a.length ≤ acc.length + l.length ∧ b.length ≤ l.length
  | S, acc, [], a, b, h => by cases h
  | S, acc, c :: r, a, b, h => by
    unfold TL.par at h
    split at h
    · cases h
      refine ⟨by omega, ?_⟩
      rw [List.length_drop]
      omega
    · obtain ⟨h1, h2⟩ := par_len h
      rw [List.length_append] at h1
      simp only [List.length_cons, List.length_nil] at h1 ⊢
      omega
theorem ok_lkt {f fI fP : Addr} {fd fdI fdP : FuncData} (D : Dfn K mg "link_told" slink_told plink_told f fd) (DI : Dfn K mg "count_told" scount_told pcount_told fI fdI) (GI : FnOk P w K mg base CX0 2 fI fdI pcount_told spCntT)
    (DP : Dfn K mg "is_pair" sis_pair pis_pair fP fdP) (GP : FnOk P w K mg base CX0 3 fP fdP pis_pair (spPairD K)) : FnOk P w K mg base CX0 4 f fd plink_told (spLkT K) := by
  have nd := sclink_told.nd
  refine D.F.ok sclink_told (fun vs H Q E h => ?_) (fun cdv A outer s H vs Q E hr h => ?_)
  · obtain ⟨x, rfl, _⟩ := h
    rfl
  · obtain ⟨x, rfl, hl, q⟩ := h
    have hr2 : Room 2 _ := hr.mono (by decide)
    refine ⟨_, pss_cons (ps_asg (g := gTup K 3 (gCons (gName 1) (gCons (gName 2) (gCons (gName 3) gNil)))) (pe_partition (pv 0) pe_str) (by exact pg_tup rfl (pgs_cons (pg_name (i := 1) nd rfl (.inl rfl)) (pgs_cons (pg_name (i := 2) nd rfl (.inl rfl)) (pgs_cons (pg_name (i := 3) nd rfl (.inl rfl)) pgs_nil)))))
      (pss_cons (ps_set (i := 4) nd rfl (.inl rfl) (pe_tup (pa_cons (pe_call GI hr2 (by rfl) DI.g DI.F.kp DI.b .nil pass0 (pa_cons (pv 1) pa_nil)) (pa_cons (pe_call GI hr2 (by rfl) DI.g DI.F.kp DI.b .nil pass0 (pa_cons (pv 3) pa_nil)) pa_nil))))
      (pss_one (ps_ret (pe_ifExp (pt_val (pe_call GP hr (by rfl) DP.g DP.F.kp DP.b .nil pass0 (pa_cons (pv 4) pa_nil))) (pv 4) pe_non)))), ?_⟩
    have q45 : ("-" : Str) = st [45] := by decide +kernel
    obtain ⟨a, b, c, hpar, ha, hb, hlk⟩ : ∃ a b c : Str, Txt.partition x "-" = (a, c, b) ∧ a.length ≤ 100000 ∧ b.length ≤ 100000 ∧ linkTd (cl x) = pairTd (cntT (cl a)) (cntT (cl b)) := by
      have hx := cl_len x
      have hp := TL.partition_par x (st [45]) (by show [45] ≠ []; simp)
      rw [q45, hp]
      unfold linkTd
      have e : TL.tl (st [45]) = [45] := rfl
      rw [e]
      cases h : TL.par [45] [] (TL.tl x) with
      | none =>
        refine ⟨x, Str.empty, _, rfl, hl, by decide, ?_⟩
        rfl
      | some ab =>
        obtain ⟨a, b⟩ := ab
        have hl2 := par_len h
        have hx2 : (TL.tl x).length = x.length := hx.symm
        refine ⟨st a, st b, _, rfl, by rw [st_len]; simp only [List.length_nil] at hl2; omega, by rw [st_len]; omega, ?_⟩
        rfl
    rw [hlk] at q
    refine ⟨_, rfl, ⟨_, rfl⟩, x, "-", rfl, rfl, (by decide +kernel), Nat.le_trans hl (by decide), fun p np => ?_⟩
    rw [hpar]
    have s1 := Same.new (o := .tup [.str a, .str c, .str b]) np
    have hp1 : (upd H p (.tup [.str a, .str c, .str b])) p = some (.tup [.str a, .str c, .str b]) := upd_same
    show gTup K 3 _ (V.ref p) _ (upd H p (.tup [.str a, .str c, .str b])) _
    generalize upd H p (.tup [.str a, .str c, .str b]) = H1 at s1 hp1
    refine ⟨p, _, rfl, .inl (.inl hp1), rfl, _, _, rfl, _, _, rfl, _, _, rfl, rfl, ?_⟩
    refine ⟨_, rfl, a, rfl, ha, _, rfl, b, rfl, hb, (by show 2 ≤ sizeLine; decide), fun t nt => ?_⟩
    have s2 := s1.trans (Same.new (o := .tup [vN (cntT (cl a)), vN (cntT (cl b))]) nt)
    have ht : (upd H1 t (.tup [vN (cntT (cl a)), vN (cntT (cl b))])) t = some (.tup [vN (cntT (cl a)), vN (cntT (cl b))]) := upd_same
    generalize upd H1 t (.tup [vN (cntT (cl a)), vN (cntT (cl b))]) = H2 at s2 ht
    refine setF ?_
    have hd : Dp K H2 (.ref t) (.tuple [fl (vN (cntT (cl a))), fl (vN (cntT (cl b)))]) := .tup (.inl (.inl ht)) (.cons (dp_vN K _ _) (.cons (dp_vN K _ _) .nil))
    refine ⟨_, rfl, .ref t, _, rfl, hd, _, rfl, ?_⟩
    have e : pairD (.tuple [fl (vN (cntT (cl a))), fl (vN (cntT (cl b)))]) = (pairTd (cntT (cl a)) (cntT (cl b))).isSome := by
      show (cntD (fl (vN (cntT (cl a)))) && cntD (fl (vN (cntT (cl b))))) = _
      rw [cntD_vN, cntD_vN]
      cases h1 : cntT (cl a) with
      | none => rfl
      | some m =>
        cases h2 : cntT (cl b) with
        | none => exact Bool.and_false _
        | some n =>
          show (decide (m ≤ 1048576) && decide (n ≤ 1048576)) = (if m ≤ 1048576 ∧ n ≤ 1048576 then some (PyData.tuple [.int (m : Int), .int (n : Int)]) else none).isSome
          by_cases c : m ≤ 1048576 ∧ n ≤ 1048576
          · rw [if_pos c, decide_eq_true c.1, decide_eq_true c.2]
            rfl
          · rw [if_neg c]
            by_cases c1 : m ≤ 1048576
            · rw [decide_eq_false fun z => c ⟨c1, z⟩, Bool.and_false]
              rfl
            · rw [decide_eq_false c1]
              rfl
    rw [e]
    cases hpt : pairTd (cntT (cl a)) (cntT (cl b)) with
    | none =>
      rw [hpt] at q
      refine iteF ?_
      exact q _ _ s2 .non
    | some d =>
      rw [hpt] at q
      refine iteT ?_
      refine ⟨_, rfl, ?_⟩
      refine q _ _ s2 ?_
      have ed : d = .tuple [fl (vN (cntT (cl a))), fl (vN (cntT (cl b)))] := by
        unfold pairTd at hpt
        split at hpt
        · rename_i m n hmn
          split at hpt
          · injection hmn with h1 h2
            rw [h1, h2, ← Option.some.inj hpt]
            rfl
          · cases hpt
        · cases hpt
      rw [show (some d).getD PyData.none = d from rfl, ed]
      exact hd
end
end K19
end
section
namespace K19
open PySem L2 No RZ
/-! ### worlds told, steps told -/
theorem ctB {K : PySem.W.Frag} {H : Hp} {a b : Addr} {xs ys : List V} {Q : VK} (ha : SqT K H a xs) (hb : SqT K H b ys) (hl : xs.length + ys.length ≤ sizeLine) (q : ∀ (p : Addr) (H' : Hp), Same H H' → SqT K H' p (xs ++ ys) → Q (.ref p) H') : rCatA K (.ref a) (.ref b) H Q := by
  refine ⟨a, b, xs, ys, rfl, rfl, ha, hb, hl, fun e => ?_, fun _ e => ?_, fun _ _ p hp => q p _ (Same.new hp) (.inl (.inl upd_same))⟩
  · subst e
    exact q b H (Same.refl _) hb
  · subst e
    rw [List.append_nil] at q
    exact q a H (Same.refl _) ha
theorem wordsF_len : ∀ {n : Nat} {r : List Nat} {ws : List (List Nat)}, wordsF n r = some ws → (∀ l, l ∈ ws → l.length ≤ r.length) ∧ ws.length ≤ r.length
  | 0, _, _, h => by cases h
  | n + 1, r, ws, h => by
    unfold wordsF at h
    cases e : wend r with
    | none => rw [e] at h; cases h
    | some k =>
      rw [e] at h
      dsimp only at h
      have hk := wend_le e
      by_cases k0 : k = 0
      · rw [if_pos k0] at h
        cases h
      · rw [if_neg k0] at h
        cases d : r.drop k with
        | nil =>
          rw [d] at h
          cases h
          refine ⟨fun l hl => by rw [List.mem_singleton.mp hl]; exact Nat.le_refl _, ?_⟩
          simp only [List.length_cons, List.length_nil]
          omega
        | cons c r' =>
          rw [d] at h
          dsimp only at h
          have dl := congrArg List.length d
          rw [List.length_drop, List.length_cons] at dl
          by_cases c0 : c = 32
          · rw [if_pos c0] at h
            cases e2 : wordsF n r' with
            | none => rw [e2] at h; cases h
            | some ws' =>
              rw [e2] at h
              cases h
              obtain ⟨h1, h2⟩ := wordsF_len e2
              refine ⟨fun l hl => ?_, ?_⟩
              · rcases List.mem_cons.mp hl with rfl | hl
                · rw [List.length_take]
                  omega
                · have := h1 l hl
                  omega
              · simp only [List.length_cons]
                omega
          · rw [if_neg c0] at h
            cases h
theorem wordsF_ne {n : Nat} {r : List Nat} {ws : List (List Nat)} (h : wordsF n r = some ws) : ws ≠ [] := by
  cases n with
  | zero => cases h
  | succ n =>
    unfold wordsF at h
    split at h
    · cases h
    · split at h
      · cases h
      · split at h
        · cases h
          simp
        · split at h
          · split at h
            · cases h
            · cases h
              simp
          · cases h
theorem links_get : ∀ (r : List (List Nat)), linksTd r = if (r.any fun l => (linkTd l).isNone) = true then none else some (r.map fun l => (linkTd l).getD .none)
  | [] => rfl
  | l :: r => by
    unfold linksTd
    rw [links_get r, List.any_cons, List.map_cons]
    cases linkTd l with
    | none => rfl
    | some d =>
      by_cases h : (r.any fun l => (linkTd l).isNone) = true
      · rw [if_pos h, if_pos (show ((some d).isNone || r.any fun l => (linkTd l).isNone) = true by rw [h]; rfl)]
      · rw [if_neg h, if_neg (show ¬ ((some d).isNone || r.any fun l => (linkTd l).isNone) = true from fun z => h (by simpa using z))]
        rfl
theorem link_pl (l : List Nat) : Pl 1 ((linkTd l).getD .none) ∧ noL ((linkTd l).getD .none) = true ∧ PyData.eqv ((linkTd l).getD .none) .none = (linkTd l).isNone := by
  have key : ∀ o : Option PyData, o = linkTd l → Pl 1 (o.getD .none) ∧ noL (o.getD .none) = true ∧ PyData.eqv (o.getD .none) .none = o.isNone := by
    intro o ho
    cases o with
    | none => exact ⟨trivial, by show noL .none = true; unfold noL; rfl, by show PyData.eqv .none .none = true; unfold PyData.eqv; rfl⟩
    | some d =>
      have hd : ∃ a b : Nat, d = .tuple [.int (a : Int), .int (b : Int)] := by
        have ho := ho.symm
        unfold linkTd at ho
        dsimp only at ho
        split at ho
        · split at ho
          · exact ⟨_, _, (Option.some.inj ho).symm⟩
          · cases ho
        · cases ho
      obtain ⟨a, b, rfl⟩ := hd
      refine ⟨⟨by show 2 ≤ 100000; decide, fun x hx => ?_⟩, ?_, ?_⟩
      · rcases List.mem_cons.mp hx with rfl | hx
        · exact trivial
        · rw [List.mem_singleton.mp hx]
          exact trivial
      · show noL (.tuple [.int (a : Int), .int (b : Int)]) = true
        simp only [noL, noLs, Bool.and_self]
      · show PyData.eqv (.tuple [.int (a : Int), .int (b : Int)]) .none = false
        simp only [PyData.eqv]
  exact key _ rfl
abbrev sworld_told : Stmt := top 43
abbrev nworld_told : List Str := ["words", "links", "word"]
abbrev pworld_told : List Str := ["words"]
theorem scworld_told : FnScope nworld_told pworld_told (defScope sworld_told) := ⟨rfl, rfl, rfl, by decide +kernel, rfl, by decide +kernel, by decide +kernel⟩
def spWT (K : PySem.W.Frag) : Sp := fun vs H Q _ => ∃ (l : Addr) (ws : List (List Nat)), vs = [.ref l] ∧ SqL K H l (wV ws) ∧ H l = some (.lst (wV ws)) ∧ (∀ w, w ∈ ws → w.length ≤ 100000) ∧ ws.length ≤ 100000 ∧ Ans K (worldTd ws) H Q
theorem wV_get {ws : List (List Nat)} {i : Nat} {x : V} (h : (wV ws)[i]? = some x) : ∃ w, ws[i]? = some w ∧ x = .str (st w) := by
  unfold wV at h
  rw [List.getElem?_map] at h
  obtain ⟨w, h1, h2⟩ := Option.map_eq_some_iff.mp h
  exact ⟨w, h1, h2.symm⟩
theorem sqL_same {K : PySem.W.Frag} {H H' : Hp} {a : Addr} {xs : List V} (s : Same H H') (h : SqL K H a xs) : SqL K H' a xs := by
  rcases h with (h | ⟨o, h⟩) | h
  · exact .inl (.inl (s _ _ h))
  · exact .inl (.inr ⟨o, s _ _ h⟩)
  · exact .inr h
section
variable {P : Program} {w : World} {K : PySem.W.Frag} {mg : Str → Option Value} {base : Heap}
theorem ok_wt {f fI fP fL : Addr} {fd fdI fdP fdL : FuncData} (D : Dfn K mg "world_told" sworld_told pworld_told f fd) (B : Bi mg) (DI : Dfn K mg "count_told" scount_told pcount_told fI fdI) (GI : FnOk P w K mg base CX0 2 fI fdI pcount_told spCntT)
    (DP : Dfn K mg "is_part_word" sis_part_word pis_part_word fP fdP) (GP : FnOk P w K mg base CX0 5 fP fdP pis_part_word spIPW) (DL : Dfn K mg "link_told" slink_told plink_told fL fdL) (GL : FnOk P w K mg base CX0 4 fL fdL plink_told (spLkT K)) : FnOk P w K mg base CX0 6 f fd pworld_told (spWT K) := by
  have nd := scworld_told.nd
  refine D.F.ok scworld_told (fun vs H Q E h => ?_) (fun cdv A outer s H vs Q E hr h => ?_)
  · obtain ⟨l, ws, rfl, _⟩ := h
    rfl
  · obtain ⟨l, ws, rfl, hl, hl0, hw, hn, q⟩ := h
    have hr2 : Room 2 _ := hr.mono (by decide)
    have hr4 : Room 4 _ := hr.mono (by decide)
    have hu65 : (A.deeper (PyProof.Rows.envOfC (Str.ofString "world_told") (defScope sworld_told) s.heap.objs.size f cdv)).units + 65 < cLine := by
      have := hr.un
      omega
    refine ⟨_, pss_cons (ps_if (PW.pt (pw_or (pt_cmpR op_lt (pe_callB call_len_seq (by rfl) B.len PySem.boot_len (pa_cons (pv 0) pa_nil)) pe_int (nomark _)) (pw_or1 (pt_not (pt_val (pe_call GP hr (by rfl) DP.g DP.F.kp DP.b .nil pass0 (pa_cons pe_str (pa_cons (pe_ix (r := rIxL K) ix_list (pv 0) pe_int (fun _ _ => rfl)) pa_nil)))))))) (pss_one (ps_ret pe_non)) pss_nil)
      (pss_cons (ps_set (i := 1) nd rfl (.inl rfl) (pe_callTy call_tuple_of (by rfl) B.tuple (by decide +kernel) (pa_cons (pe_lc (own := [("word", 2)]) (g := gName 2) (tt := tYes) (te := tCall (spLkT K) [] E0 (tCons (tVar 2) tNil)) rfl nd (pi_list (pe_slice sl_list (pv 0) (po_some pe_int) po_none)) (blkOk_by (N := nworld_told) (sc := defScope sworld_told) (by decide +kernel)) (fun _ _ _ _ _ => pg_name (i := 2) nd rfl (.inl rfl)) (fun _ _ _ _ _ => pts_nil) (fun _ _ _ _ _ => by exact (pe_call GL hr4 (by rfl) DL.g DL.F.kp DL.b .nil pass0 (pa_cons (pv 2) pa_nil)))) pa_nil)))
      (pss_one (ps_ret (pe_ifExp (pt_cmpR (ID.op_notInT hu65) pe_non (pv 1) (by rfl)) (pe_tup (pa_cons pe_str (pa_cons (pe_call GI hr2 (by rfl) DI.g DI.F.kp DI.b .nil pass0 (pa_cons (pe_ix (r := rIxL K) ix_list (pv 0) pe_int (fun _ _ => rfl)) pa_nil)) (pa_cons (pv 1) pa_nil)))) pe_non)))), ?_⟩
    have wl : (wV ws).length = ws.length := by unfold wV; rw [List.length_map]
    refine ⟨_, rfl, l, _, rfl, .inl hl, _, _, rfl, rfl, _, rfl, ?_⟩
    match ws, hl, hl0, hw, hn, q, wl with
    | [], hl, hl0, hw, hn, q, wl => exact iteT (iteT (q _ _ (Same.refl _) .non))
    | [w0], hl, hl0, hw, hn, q, wl => exact iteT (iteT (q _ _ (Same.refl _) .non))
    | w0 :: n :: r, hl, hl0, hw, hn, q, wl =>
      have hwn := hw n (List.mem_cons_of_mem _ List.mem_cons_self)
      rw [show decide ((((wV (w0 :: n :: r)).length : Nat) : Int) < 2) = false from decide_eq_false (by rw [wl]; simp only [List.length_cons]; omega)]
      refine iteF ?_
      refine ⟨_, rfl, l, _, _, _, rfl, rfl, hl, at_of (j := 1) rfl rfl, .c, st n, rfl, by rw [st_len]; exact hwn, _, rfl, ?_⟩
      rw [cl_st]
      have ew : worldTd (w0 :: n :: r) = if partWd .c n = true then (match linksTd r with
        | none => none
        | some ds => some (.tuple [.str "world", fl (vN (cntT n)), .tuple ds])) else none := rfl
      rw [ew] at q
      cases hp : partWd .c n with
      | false =>
        rw [hp, if_neg Bool.false_ne_true] at q
        refine iteT ?_
        exact q _ _ (Same.refl _) .non
      | true =>
        rw [hp, if_pos rfl] at q
        refine iteF ?_
        refine ⟨_, rfl, _, rfl, ?_⟩
        refine noPx ?_
        refine ⟨l, _, rfl, hl, fun p np => ?_⟩
        have ec : cutV (wV (w0 :: n :: r)) (some 2) none = wV r := by
          unfold cutV
          rw [show HT.sIx (wV (w0 :: n :: r)).length 0 (some 2) = 2 from (HT.sIx_nat _ 0 2).trans (Nat.min_eq_left (by rw [wl]; simp)), HT.sIx_none]
          exact List.take_of_length_le (by rw [List.length_drop]; omega)
        rw [ec]
        have s1 := Same.new (o := .lst (wV r)) np
        have hp1 : (upd H p (.lst (wV r))) p = some (.lst (wV r)) := upd_same
        generalize upd H p (.lst (wV r)) = H1 at s1 hp1
        refine ⟨p, rfl, ⟨_, SqL.of hp1⟩, fun Dl hD => ?_⟩
        have rl : (wV r).length = r.length := by unfold wV; rw [List.length_map]
        have rb : r.length ≤ 100000 := by simp only [List.length_cons] at hn; omega
        refine lc_dat (walk_list (K := K) (a := p) (xs := wV r)) (K := K) (r.map fun l => (linkTd l).getD .none) hD (by rw [List.length_map, rl]) (by omega) (noLs_mem.mpr fun d hd => by
          obtain ⟨y, _, rfl⟩ := List.mem_map.mp hd
          exact (link_pl y).2.1) (fun H' s' => sqL_same s' (SqL.of hp1)) ?_ ?_ gName_mono
        · rintro i y H4 H5 d R hi s4 ⟨rfl, hy⟩ hR
          obtain ⟨u, hu, rfl⟩ := wV_get hy
          rw [List.getElem?_map, hu] at hi
          have hi := Option.some.inj hi
          subst hi
          refine ⟨rfl, _, rfl, st u, rfl, by rw [st_len]; exact hw u (List.mem_cons_of_mem _ (List.mem_cons_of_mem _ (List.mem_of_getElem? hu))), ?_⟩
          rw [cl_st]
          exact fun v H' s' hv => hR v H' s' hv
        · rintro H6 ys s6 hd6 hys
          refine ⟨Dl, ys, rfl, .inl ⟨SqL.of hd6, fun t nt => ?_⟩⟩
          have s7 := (s1.trans s6).trans (Same.new (o := .tup ys) nt)
          have hys7 := DpAll.same (Same.new (o := .tup ys) nt) _ _ hys
          have ht : (upd H6 t (.tup ys)) t = some (.tup ys) := upd_same
          generalize upd H6 t (.tup ys) = H7 at s7 hys7 ht
          refine setF ?_
          have hdt : Dp K H7 (.ref t) (.tuple (r.map fun l => (linkTd l).getD .none)) := .tup (.inl (.inl ht)) hys7
          have pl2 : Pl 2 (.tuple (r.map fun l => (linkTd l).getD .none)) := ⟨by rw [List.length_map]; exact rb, fun x hx => by
            obtain ⟨y, _, rfl⟩ := List.mem_map.mp hx
            exact (link_pl y).1⟩
          have pl0 : Pl 2 .none := trivial
          refine ⟨_, rfl, .none, _, .non, hdt, pl0.shaped (by decide), pl2.shaped (by decide), _, rfl, ?_⟩
          have ea : ((r.map fun l => (linkTd l).getD .none).any fun z => PyData.eqv z .none) = r.any fun l => (linkTd l).isNone := by
            rw [List.any_map]
            congr 1
            funext l
            exact (link_pl l).2.2
          rw [links_get] at q
          show if (!((r.map fun l => (linkTd l).getD .none).any fun z => PyData.eqv z .none)) = true then _ else _
          rw [ea]
          cases hany : r.any fun l => (linkTd l).isNone with
          | true =>
            rw [hany, if_pos rfl] at q
            refine iteF ?_
            exact q _ _ s7 .non
          | false =>
            rw [hany, if_neg Bool.false_ne_true] at q
            refine iteT ?_
            refine ⟨_, rfl, l, _, _, _, rfl, rfl, sqL_same s7 hl, at_of (j := 1) rfl rfl, st n, rfl, by rw [st_len]; exact hwn, _, rfl, (by show 3 ≤ sizeLine; decide), fun z nz => ?_⟩
            rw [cl_st]
            have s8 := Same.new (o := .tup [.str "world", vN (cntT n), .ref t]) nz
            exact q _ _ (s7.trans s8) (.tup (.inl (.inl upd_same)) (.cons (.str _) (.cons (dp_vN K _ _) (.cons (Dp.same s8 _ _ hdt) .nil))))
end
end K19
end
section
namespace K19
open PySem L2 No RZ
/-! ### step_told -/
abbrev sstep_told : Stmt := top 44
abbrev nstep_told : List Str := ["line", "words", "form", "kind", "word"]
abbrev pstep_told : List Str := ["line"]
theorem scstep_told : FnScope nstep_told pstep_told (defScope sstep_told) := ⟨rfl, rfl, rfl, by decide +kernel, rfl, by decide +kernel, by decide +kernel⟩
def spSTd (K : PySem.W.Frag) : Sp := fun vs H Q _ => ∃ x : Str, vs = [.str x] ∧ x.length ≤ 100000 ∧ Ans K (stepTd (cl x)) H Q
theorem noL_part (k : Kd) (l : List Nat) : noL (fl (partTv k l)) = true := by
  cases partTv k l <;> (unfold fl noL; rfl)
theorem st_dec (l : List Nat) (z : Str) : decide (V.str (st l) = V.str z) = decide (st l = z) := by
  rw [decide_eq_decide]
  exact ⟨fun e => V.str.inj e, fun e => by rw [e]⟩
section
variable {P : Program} {w : World} {K : PySem.W.Frag} {mg : Str → Option Value} {base : Heap}
theorem ok_std {f fW fT fI fP cF : Addr} {fd fdW fdT fdI fdP : FuncData} (D : Dfn K mg "step_told" sstep_told pstep_told f fd) (B : Bi mg) (FG : mg "FORMS" = some (.ref cF)) (F : Fm K w cF) (DW : Dfn K mg "words_of" swords_of pwords_of fW fdW) (GW : FnOk P w K mg base CX0 2 fW fdW pwords_of spWO)
    (DT : Dfn K mg "world_told" sworld_told pworld_told fT fdT) (GT : FnOk P w K mg base CX0 6 fT fdT pworld_told (spWT K)) (DI : Dfn K mg "is_part_word" sis_part_word pis_part_word fI fdI) (GI : FnOk P w K mg base CX0 5 fI fdI pis_part_word spIPW)
    (DP : Dfn K mg "part_told" spart_told ppart_told fP fdP) (GP : FnOk P w K mg base CX0 5 fP fdP ppart_told spPTd) : FnOk P w K mg base CX0 7 f fd pstep_told (spSTd K) := by
  have nd := scstep_told.nd
  obtain ⟨es, nn, KD⟩ := F.kd
  refine D.F.ok scstep_told (fun vs H Q E h => ?_) (fun cdv A outer s H vs Q E hr h => ?_)
  · obtain ⟨x, rfl, _⟩ := h
    rfl
  · obtain ⟨x, rfl, hl, q⟩ := h
    have hr2 : Room 2 _ := hr.mono (by decide)
    have hr5 : Room 5 _ := hr.mono (by decide)
    refine ⟨_, pss_cons (ps_set (i := 1) nd rfl (.inl rfl) (pe_call GW hr2 (by rfl) DW.g DW.F.kp DW.b .nil pass0 (pa_cons (pv 0) pa_nil)))
      (pss_cons (ps_if (pt_cmpR op_isN (pv 1) pe_non (nomark _)) (pss_one (ps_ret pe_non)) pss_nil)
      (pss_cons (ps_if (pt_cmpR op_eq (pe_ix (r := rIxL K) ix_list (pv 1) pe_int (fun _ _ => rfl)) pe_str (nomark _)) (pss_one (ps_ret (pe_call GT hr (by rfl) DT.g DT.F.kp DT.b .nil pass0 (pa_cons (pv 1) pa_nil)))) pss_nil)
      (pss_cons (ps_if (PW.pt (pw_or (pt_cmpR (op_notIn_kd KD) (pe_ix (r := rIxL K) ix_list (pv 1) pe_int (fun _ _ => rfl)) (pe_glob (v := .ref cF) rfl FG rfl) (by rfl))
        (pw_or1 (pt_cmpR op_ne (pe_op op_sub (pe_callB call_len_seq (by rfl) B.len PySem.boot_len (pa_cons (pv 1) pa_nil)) pe_int) (pe_callB call_len_seq (by rfl) B.len PySem.boot_len (pa_cons (pe_ix ix_kdict (pe_glob (v := .ref cF) rfl FG rfl) (pe_ix (r := rIxL K) ix_list (pv 1) pe_int (fun _ _ => rfl)) (fun _ _ => rfl)) pa_nil)) (nomark _))))) (pss_one (ps_ret pe_non)) pss_nil)
      (pss_cons (ps_set (i := 2) nd rfl (.inl rfl) (pe_ix ix_kdict (pe_glob (v := .ref cF) rfl FG rfl) (pe_ix (r := rIxL K) ix_list (pv 1) pe_int (fun _ _ => rfl)) (fun _ _ => rfl)))
      (pss_cons (ps_if (pt_not (pt_val (pe_callB (cr_all rfl) (by rfl) B.all (by decide +kernel) (pa_cons (pe_lc (own := [("kind", 3), ("word", 4)]) (g := gTup K 2 (gCons (gName 3) (gCons (gName 4) gNil))) (tt := tYes) (te := tCall spIPW [] E0 (tCons (tVar 3) (tCons (tVar 4) tNil))) rfl nd
        (ZM.pi_zipM (by rfl) B.zip (pa_cons (pv 2) (pa_cons (pe_slice sl_list (pv 1) (po_some pe_int) po_none) pa_nil))) (blkOk_by (N := nstep_told) (sc := defScope sstep_told) (by decide +kernel))
        (fun _ _ _ _ _ => by exact pg_tup (n := 2) rfl (pgs_cons (pg_name (i := 3) nd rfl (.inl rfl)) (pgs_cons (pg_name (i := 4) nd rfl (.inl rfl)) pgs_nil))) (fun _ _ _ _ _ => pts_nil) (fun _ _ _ _ _ => by exact (pe_call GI hr5 (by rfl) DI.g DI.F.kp DI.b .nil pass0 (pa_cons (pv 3) (pa_cons (pv 4) pa_nil))))) pa_nil)))) (pss_one (ps_ret pe_non)) pss_nil)
      (pss_one (ps_ret (pe_op op_catA (pe_tup (pa_cons (pe_ix (r := rIxL K) ix_list (pv 1) pe_int (fun _ _ => rfl)) pa_nil)) (pe_callTy call_tuple_of (by rfl) B.tuple (by decide +kernel) (pa_cons (pe_lc (own := [("kind", 3), ("word", 4)]) (g := gTup K 2 (gCons (gName 3) (gCons (gName 4) gNil))) (tt := tYes) (te := tCall spPTd [] E0 (tCons (tVar 3) (tCons (tVar 4) tNil))) rfl nd
        (ZM.pi_zipM (by rfl) B.zip (pa_cons (pv 2) (pa_cons (pe_slice sl_list (pv 1) (po_some pe_int) po_none) pa_nil))) (blkOk_by (N := nstep_told) (sc := defScope sstep_told) (by decide +kernel))
        (fun _ _ _ _ _ => by exact pg_tup (n := 2) rfl (pgs_cons (pg_name (i := 3) nd rfl (.inl rfl)) (pgs_cons (pg_name (i := 4) nd rfl (.inl rfl)) pgs_nil))) (fun _ _ _ _ _ => pts_nil) (fun _ _ _ _ _ => by exact (pe_call GP hr5 (by rfl) DP.g DP.F.kp DP.b .nil pass0 (pa_cons (pv 3) (pa_cons (pv 4) pa_nil))))) pa_nil)))))))))), ?_⟩
    refine ⟨_, rfl, x, rfl, hl, fun e H1 s1 => ?_, fun ws e l H1 s1 nl hl1 => ?_⟩
    · refine setF ?_
      refine ⟨_, rfl, rfl, _, rfl, ?_⟩
      refine iteT ?_
      unfold stepTd at q
      rw [e] at q
      exact q _ _ s1 .non
    · have hx := cl_len x
      obtain ⟨wb, wn⟩ := wordsF_len e
      have wne := wordsF_ne e
      unfold stepTd at q
      rw [e] at q
      refine setF ?_
      refine ⟨_, rfl, rfl, _, rfl, ?_⟩
      refine iteF ?_
      match ws, wne, hl1, wb, wn, q with
      | w0 :: r, _, hl1, wb, wn, q =>
        have wl : (wV (w0 :: r)).length = r.length + 1 := by unfold wV; rw [List.length_map, List.length_cons]
        have hs1 := SqL.of (K := K) hl1
        have a0 : atI (wV (w0 :: r)) 0 = some (.str (st w0)) := at_of (j := 0) rfl rfl
        have rb : r.length ≤ 100000 := by simp only [List.length_cons] at wn; omega
        refine ⟨_, rfl, l, _, _, _, rfl, rfl, hs1, a0, rfl, _, rfl, ?_⟩
        rw [st_dec]
        have q : Ans K (if st w0 = "world" then worldTd (w0 :: r) else match formOf (st w0) with
          | none => none
          | some f => if r.length = f.length ∧ (f.zip r).all (fun p => partWd p.1 p.2) = true then some (.tuple (.str (st w0) :: (List.zipWith partTv f r).map fl)) else none) H Q := q
        by_cases hz : st w0 = "world"
        · rw [if_pos hz] at q
          rw [decide_eq_true hz]
          refine iteT ?_
          exact ⟨_, rfl, l, _, rfl, hs1, hl1, fun u hu => by have := wb u hu; omega, by omega, fun v H' s' hv => q v H' (s1.trans s') hv⟩
        · rw [if_neg hz] at q
          rw [decide_eq_false hz]
          refine iteF ?_
          cases hf : formOf (st w0) with
          | none =>
            rw [hf] at q
            refine ⟨_, rfl, l, _, _, _, rfl, rfl, hs1, a0, st w0, none, rfl, rfl, F.no _ hf, _, rfl, ?_⟩
            refine iteT ?_
            refine iteT ?_
            exact q _ _ s1 .non
          | some fm =>
            rw [hf] at q
            dsimp only at q
            obtain ⟨tA, hns, hsq⟩ := F.yes _ fm hf
            obtain ⟨tA2, hdct, hsq2⟩ := F.dct hf
            refine ⟨_, rfl, l, _, _, _, rfl, rfl, hs1, a0, st w0, _, rfl, rfl, hns, _, rfl, ?_⟩
            refine iteF ?_
            refine ⟨_, rfl, l, _, rfl, .inl hs1, _, _, rfl, rfl, ?_⟩
            refine ⟨_, rfl, l, _, _, _, rfl, rfl, hs1, a0, cF, st w0, .ref tA2, rfl, rfl, hdct, tA2, _, rfl, .inr (hsq2 _), rfl, _, rfl, ?_⟩
            by_cases hlen : r.length = fm.length
            · rw [show (!decide (V.int ((((wV (w0 :: r)).length : Nat) : Int) - 1) = V.int (((fm.map fun k => V.str k.s).length : Nat) : Int))) = false by
                rw [decide_eq_true (by congr 1; rw [List.length_map, wl]; omega)]
                rfl]
              refine iteF ?_
              refine ⟨_, rfl, l, _, _, _, rfl, rfl, hs1, a0, cF, st w0, .ref tA2, rfl, rfl, hdct, ?_⟩
              refine setF ?_
              have ec : cutV (wV (w0 :: r)) (some 1) none = wV r := by
                unfold cutV
                rw [show HT.sIx (wV (w0 :: r)).length 0 (some 1) = 1 from (HT.sIx_nat _ 0 1).trans (Nat.min_eq_left (by rw [wl]; omega)), HT.sIx_none]
                exact List.take_of_length_le (by rw [List.length_drop]; omega)
              have rl : (wV r).length = r.length := by unfold wV; rw [List.length_map]
              refine ⟨_, rfl, _, rfl, _, rfl, ?_⟩
              refine noPx ?_
              refine ⟨l, _, rfl, hs1, fun p np => ?_⟩
              rw [ec]
              have s2 := s1.trans (Same.new (o := .lst (wV r)) np)
              have hl2 := (Same.new (o := .lst (wV r)) np) _ _ hl1
              have hp2 : (upd H1 p (.lst (wV r))) p = some (.lst (wV r)) := upd_same
              generalize upd H1 p (.lst (wV r)) = H2 at s2 hl2 hp2
              refine ⟨tA2, p, _, _, rfl, hsq2 _, SqL.of hp2, fun Dl hD => ?_⟩
              refine lc_dat (ZM.walk (K := K) (a := tA2) (b := p) (xs := fm.map fun k => V.str k.s) (ys := wV r) (n := r.length) (by rw [List.length_map]; omega)) (K := K) (((fm.zip r).map fun p => partWd p.1 p.2).map PyData.bool) hD (by rw [List.length_map, List.length_map, List.length_zip]; omega) rb (noLs_bl _) (fun H' s' => ⟨hsq2 _, sqL_same s' (SqL.of hp2)⟩) ?_ ?_ gTup2_mono
              · rintro i y H4 H5 d R hi s4 ⟨tt, x1, x2, rfl, nt, rfl, e1, e2⟩ hR
                obtain ⟨u, hu, rfl⟩ := wV_get e2
                have e1 : (fm.map fun k => V.str k.s)[i]? = some x1 := e1
                rw [List.getElem?_map] at e1
                obtain ⟨k, hk, rfl⟩ := Option.map_eq_some_iff.mp e1
                rw [List.getElem?_map, List.getElem?_map, zip_get hk hu] at hi
                have hi := Option.some.inj hi
                subst hi
                have s5 : Same H4 (upd H4 tt (.tup [.str k.s, .str (st u)])) := Same.new nt
                refine ⟨tt, _, rfl, .inl (.inl upd_same), rfl, _, _, rfl, _, _, rfl, rfl, rfl, ?_⟩
                refine ⟨_, rfl, _, rfl, k, st u, rfl, by rw [st_len]; have := wb u (List.mem_cons_of_mem _ (List.mem_of_getElem? hu)); omega, ?_⟩
                rw [cl_st]
                exact hR _ _ s5 (.bl _)
              · rintro H6 ys s6 hd6 hys
                rw [dpa_bl hys] at hd6
                refine ⟨Dl, _, rfl, SqL.of hd6, _, rfl, ?_⟩
                rw [show ((fm.zip r).map fun p => partWd p.1 p.2).all id = (fm.zip r).all fun p => partWd p.1 p.2 by rw [List.all_map]; rfl]
                have s26 := s2.trans s6
                cases hall : (fm.zip r).all fun p => partWd p.1 p.2 with
                | false =>
                  rw [hall] at q
                  refine iteT ?_
                  have q := q .non H6 s26
                  rw [if_neg (fun h => Bool.false_ne_true h.2)] at q
                  exact q .non
                | true =>
                  rw [hall] at q
                  refine iteF ?_
                  have hl6 := s6 _ _ hl2
                  refine ⟨_, rfl, l, _, _, _, rfl, rfl, SqL.of hl6, a0, (by show 1 ≤ sizeLine; decide), fun t1 nt1 => ?_⟩
                  have s7 := s26.trans (Same.new (o := .tup [.str (st w0)]) nt1)
                  have hl7 := (Same.new (o := .tup [.str (st w0)]) nt1) _ _ hl6
                  have ht1 : (upd H6 t1 (.tup [.str (st w0)])) t1 = some (.tup [.str (st w0)]) := upd_same
                  generalize upd H6 t1 (.tup [.str (st w0)]) = H7 at s7 hl7 ht1
                  refine ⟨_, rfl, _, rfl, _, rfl, ?_⟩
                  refine noPx ?_
                  refine ⟨l, _, rfl, SqL.of hl7, fun p2 np2 => ?_⟩
                  rw [ec]
                  have s8 := s7.trans (Same.new (o := .lst (wV r)) np2)
                  have ht18 := (Same.new (o := .lst (wV r)) np2) _ _ ht1
                  have hp28 : (upd H7 p2 (.lst (wV r))) p2 = some (.lst (wV r)) := upd_same
                  generalize upd H7 p2 (.lst (wV r)) = H8 at s8 ht18 hp28
                  refine ⟨tA2, p2, _, _, rfl, hsq2 _, SqL.of hp28, fun D2 hD2 => ?_⟩
                  refine lc_dat (ZM.walk (K := K) (a := tA2) (b := p2) (xs := fm.map fun k => V.str k.s) (ys := wV r) (n := r.length) (by rw [List.length_map]; omega)) (K := K) ((List.zipWith partTv fm r).map fl) hD2 (by rw [List.length_map, List.length_zipWith]; omega) rb (noLs_mem.mpr fun d hd => by
                    obtain ⟨y, hy, rfl⟩ := List.mem_map.mp hd
                    obtain ⟨i, hi⟩ := List.getElem?_of_mem hy
                    rw [List.getElem?_zipWith] at hi
                    cases h1 : fm[i]? with
                    | none => rw [h1] at hi; cases hi
                    | some k =>
                      cases h2 : r[i]? with
                      | none => rw [h1, h2] at hi; cases hi
                      | some u =>
                        rw [h1, h2] at hi
                        rw [← Option.some.inj hi]
                        exact noL_part k u) (fun H' s' => ⟨hsq2 _, sqL_same s' (SqL.of hp28)⟩) ?_ ?_ gTup2_mono
                  · rintro i y H4 H5 d R hi s4 ⟨tt, x1, x2, rfl, nt, rfl, e1, e2⟩ hR
                    obtain ⟨u, hu, rfl⟩ := wV_get e2
                    have e1 : (fm.map fun k => V.str k.s)[i]? = some x1 := e1
                    rw [List.getElem?_map] at e1
                    obtain ⟨k, hk, rfl⟩ := Option.map_eq_some_iff.mp e1
                    rw [List.getElem?_map, List.getElem?_zipWith, hk, hu] at hi
                    have hi := Option.some.inj hi
                    subst hi
                    have s5 : Same H4 (upd H4 tt (.tup [.str k.s, .str (st u)])) := Same.new nt
                    refine ⟨tt, _, rfl, .inl (.inl upd_same), rfl, _, _, rfl, _, _, rfl, rfl, rfl, ?_⟩
                    refine ⟨_, rfl, _, rfl, k, st u, rfl, by rw [st_len]; have := wb u (List.mem_cons_of_mem _ (List.mem_of_getElem? hu)); omega, ?_⟩
                    rw [cl_st]
                    exact hR _ _ s5 (dp_part K _ k u)
                  · rintro H9 ys9 s9 hd9 hys9
                    refine ⟨D2, ys9, rfl, .inl ⟨SqL.of hd9, fun t2 nt2 => ?_⟩⟩
                    have s10 := (s8.trans s9).trans (Same.new (o := .tup ys9) nt2)
                    have hys10 := DpAll.same (Same.new (o := .tup ys9) nt2) _ _ hys9
                    have ht10 := (Same.new (o := .tup ys9) nt2) _ _ (s9 _ _ ht18)
                    have ht2 : (upd H9 t2 (.tup ys9)) t2 = some (.tup ys9) := upd_same
                    generalize upd H9 t2 (.tup ys9) = H10 at s10 hys10 ht10 ht2
                    have yl := DpAll.len hys10
                    rw [List.length_map, List.length_zipWith] at yl
                    refine ctB (.inl (.inl ht10)) (.inl (.inl ht2)) (by rw [sizeLine_eq]; simp only [List.length_cons, List.length_nil]; omega) fun pz H11 s11 hpz => ?_
                    have q := q (.ref pz) H11 (s10.trans s11)
                    rw [if_pos ⟨hlen, rfl⟩] at q
                    exact q (.tup hpz (.cons (.str _) (DpAll.same s11 _ _ hys10)))
            · rw [show (!decide (V.int ((((wV (w0 :: r)).length : Nat) : Int) - 1) = V.int (((fm.map fun k => V.str k.s).length : Nat) : Int))) = true by
                rw [decide_eq_false fun e => hlen (by injection e with e; rw [List.length_map, wl] at e; omega)]
                rfl]
              refine iteT ?_
              have q := q .non H1 s1
              rw [if_neg (fun h => hlen h.1)] at q
              exact q .non
end
end K19
end
section
namespace K19
open PySem L2 No RZ
theorem seq_cutL {t tr : TS} {D : Ends} {σ : L2.St} {H : Hp} (J : L2.St → Hp → Prop) (hr : ∀ σ' H', J σ' H' → tr D σ' H') (h : (∀ σ' H', J σ' H' → tr D σ' H') → tSeq t tr D σ H) : tSeq t tr D σ H := h hr
/-! ### line_of, write_script, read_script -/
abbrev sline_of : Stmt := top 39
abbrev nline_of : List Str := ["step", "words", "one", "two", "kind", "part"]
abbrev pline_of : List Str := ["step"]
theorem scline_of : FnScope nline_of pline_of (defScope sline_of) := ⟨rfl, rfl, rfl, by decide +kernel, rfl, by decide +kernel, by decide +kernel⟩
def tPr : TE := fun σ H Q => tJs [tFmt (tVar 2), tC (.str "-"), tFmt (tVar 3)] Str.empty σ H fun out H1 => Q (.str out) H1
def wsum (ws : List (List Nat)) : Nat := (ws.map List.length).sum
/-- a step whose words together are not many signs -/
def Sm (d : PyData) : Prop := wsum (wordsD d) + (wordsD d).length ≤ 4000
def spLn (K : PySem.W.Frag) : Sp := fun vs H Q _ => ∃ (x : V) (d : PyData), vs = [x] ∧ Dp K H x d ∧ GSt d ∧ Sm d ∧ ∀ H', Same H H' → Q (.str (st (lineD d))) H'
theorem join_st (ws : List (List Nat)) : Txt.join (Str.ofString " ") (ws.map st) = st (TL.joinL [32] ws) := by
  apply cl_inj
  rw [TL.join_eq]
  rw [show cl (Str.join (Str.ofString " ") (ws.map st)) = _ from TL.tl_join _ _, cl_st, List.map_map]
  rw [show (TL.tl ∘ st) = id from rfl, List.map_id]
  rfl
theorem sum_st (ws : List (List Nat)) : ((ws.map st).map (·.length)).sum = wsum ws := by
  unfold wsum
  rw [List.map_map]
  congr 1
theorem dpa_cons {K : PySem.W.Frag} {H : Hp} {xs : List V} {d : PyData} {ds : List PyData} (h : DpAll K H xs (d :: ds)) : ∃ x ys, xs = x :: ys ∧ Dp K H x d ∧ DpAll K H ys ds := by
  cases h with
  | cons a b => exact ⟨_, _, rfl, a, b⟩
theorem dpa_str {K : PySem.W.Frag} {H : Hp} : ∀ {ls : List (List Nat)} {ys : List V}, DpAll K H ys (ls.map fun l => PyData.str (st l)) → ys = wV ls
  | [], _, .nil => rfl
  | b :: bs, _, .cons h t => by
    cases h
    rw [dpa_str t]
    rfl
theorem noLs_str (ls : List (List Nat)) : noLs (ls.map fun l => PyData.str (st l)) = true := noLs_mem.mpr fun d hd => by
  obtain ⟨b, _, rfl⟩ := List.mem_map.mp hd
  unfold noL
  rfl
theorem gps_get : ∀ {f : List Kd} {r : List PyData}, GPs f r → ∀ {i : Nat} {k : Kd} {d : PyData}, f[i]? = some k → r[i]? = some d → GP k d
  | _, _, .nil, i, k, d, h1, _ => by simp at h1
  | _, _, .cons h t, 0, k, d, h1, h2 => by
    simp at h1 h2
    subst h1
    subst h2
    exact h
  | _, _, .cons h t, i + 1, k, d, h1, h2 => gps_get t (by simpa using h1) (by simpa using h2)
theorem fmt_int {i : Nat} (h : i ≤ 1048576) : ((i : Nat) : Int).natAbs.log2 < 1920 := small_int (by omega) (by omega)
theorem len_int {i : Nat} (h : i ≤ 1048576) : (Str.ofString (toString (i : Int))).length ≤ 20 := by
  rw [cl_len, cl_int, intL_nat]
  exact len_numL (by omega)
section
variable {P : Program} {w : World} {K : PySem.W.Frag} {mg : Str → Option Value} {base : Heap}
theorem ok_ln {f fP cF : Addr} {fd fdP : FuncData} (D : Dfn K mg "line_of" sline_of pline_of f fd) (B : Bi mg) (FG : mg "FORMS" = some (.ref cF)) (F : Fm K w cF) (DP : Dfn K mg "part_word" spart_word ppart_word fP fdP) (GP' : FnOk P w K mg base CX0 3 fP fdP ppart_word (spPW K)) : FnOk P w K mg base CX0 4 f fd pline_of (spLn K) := by
  have nd := scline_of.nd
  refine D.F.ok scline_of (fun vs H Q E h => ?_) (fun cdv A outer s H vs Q E hr h => ?_)
  · obtain ⟨x, d, rfl, _⟩ := h
    rfl
  · obtain ⟨x, d, rfl, hx, hg, hsm, q⟩ := h
    refine ⟨_, pss_cons (ps_if (pt_cmpR op_eq (pe_ix (r := rIxT K) ix_tup (pv 0) pe_int (fun _ _ => rfl)) pe_str (nomark _))
        (pss_one (ps_set (i := 1) nd rfl (.inl rfl) (pe_op op_cat (pe_lst (pa_cons (pe_callTy call_str_int (by rfl) B.str (by decide +kernel) (pa_cons (pe_ix (r := rIxT K) ix_tup (pv 0) pe_int (fun _ _ => rfl)) pa_nil)) pa_nil))
          (pe_lc (own := [("one", 2), ("two", 3)]) (g := gTup K 2 (gCons (gName 2) (gCons (gName 3) gNil))) (tt := tYes) (te := tPr) rfl nd (pi_tup (pe_ix (r := rIxT K) ix_tup (pv 0) pe_int (fun _ _ => rfl))) (blkOk_by (N := nline_of) (sc := defScope sline_of) (by decide +kernel))
            (fun _ _ _ _ _ => by exact pg_tup (n := 2) rfl (pgs_cons (pg_name (i := 2) nd rfl (.inl rfl)) (pgs_cons (pg_name (i := 3) nd rfl (.inl rfl)) pgs_nil))) (fun _ _ _ _ _ => pts_nil) (fun _ _ _ _ _ => by exact (pe_joined (.cons (pe_fmt (pv 2)) (.cons pe_str (.cons (pe_fmt (pv 3)) .nil)))))))))
        (pss_one (ps_setLc (i := 1) (own := [("kind", 4), ("part", 5)]) (g := gTup K 2 (gCons (gName 4) (gCons (gName 5) gNil))) (tt := tYes) (te := tCall (spPW K) [] E0 (tCons (tVar 4) (tCons (tVar 5) tNil))) (by rfl) nd rfl rfl (sw_true rfl rfl rfl (by decide +kernel))
          (pi_zipA (by rfl) B.zip (pa_cons (pe_ix ix_kdict (pe_glob (v := .ref cF) rfl FG rfl) (pe_ix (r := rIxT K) ix_tup (pv 0) pe_int (fun _ _ => rfl)) (fun _ _ => rfl)) (pa_cons (pe_slice sl_tupA (pv 0) (po_some pe_int) po_none) pa_nil))) (blkOk_by (N := nline_of) (sc := defScope sline_of) (by decide +kernel))
          (fun _ _ _ _ _ => by exact pg_tup (n := 2) rfl (pgs_cons (pg_name (i := 4) nd rfl (.inl rfl)) (pgs_cons (pg_name (i := 5) nd rfl (.inl rfl)) pgs_nil))) (fun _ _ _ _ _ => pts_nil) (fun _ _ _ _ _ => by exact (pe_call GP' hr (by rfl) DP.g DP.F.kp DP.b .nil pass0 (pa_cons (pv 4) (pa_cons (pv 5) pa_nil)))))))
      (pss_one (ps_ret (pe_join pe_str (pe_op op_cat (pe_lst (pa_cons (pe_ix (r := rIxT K) ix_tup (pv 0) pe_int (fun _ _ => rfl)) pa_nil)) (pv 1))))), ?_⟩
    refine seq_cutL (fun σ' H1 => ∃ (z : Str) (a : Addr) (xs : List V) (l : Addr) (ls : List (List Nat)) (v2 v3 v4 v5 : Option V), σ' = [some (.ref a), some (.ref l), v2, v3, v4, v5] ∧ wordsD d = cl z :: ls ∧ Same H H1 ∧ SqT K H a (.str z :: xs) ∧ H1 l = some (.lst (wV ls))) ?_ (fun rest => ?_)
    · rintro σ' H1 ⟨z, a, xs, l, ls, v2, v3, v4, v5, rfl, hw, s1, ha, hl⟩
      have e1 : st (lineD d) = Txt.join (Str.ofString " ") ((wordsD d).map st) := (join_st _).symm
      refine ⟨⟨_, rfl⟩, _, rfl, a, _, _, _, rfl, rfl, Same.seqT s1 ha, at_of (j := 0) rfl rfl, (by show 1 ≤ sizeLine; decide), fun l1 nl1 => ?_⟩
      have s2 := s1.trans (Same.new (o := .lst [V.str z]) nl1)
      have hl2 := (Same.new (o := .lst [V.str z]) nl1) _ _ hl
      have hl1 : (upd H1 l1 (.lst [V.str z])) l1 = some (.lst [V.str z]) := upd_same
      generalize upd H1 l1 (.lst [V.str z]) = H2 at s2 hl2 hl1
      have hsm' := hsm
      unfold Sm at hsm'
      rw [hw] at hsm'
      have hlen : ls.length ≤ 100000 := by simp only [List.length_cons] at hsm'; omega
      refine ⟨_, rfl, l1, l, [V.str z], wV ls, rfl, rfl, hl1, hl2, by unfold wV; rw [List.length_map, sizeLine_eq]; simp only [List.length_cons, List.length_nil]; omega, fun p np => ?_⟩
      have s3 := s2.trans (Same.new (o := .lst ([V.str z] ++ wV ls)) np)
      have hp : (upd H2 p (.lst ([V.str z] ++ wV ls))) p = some (.lst (((wordsD d).map st).map V.str)) := by
        rw [upd_same, hw]
        unfold wV
        rw [List.map_cons, List.map_cons, List.map_map, st_cl]
        rfl
      refine ⟨Str.ofString " ", p, (wordsD d).map st, rfl, rfl, .inl (SqL.of hp), ?_, ?_⟩
      · rw [sum_st, List.length_map]
        have : (Str.ofString " ").length = 1 := by decide +kernel
        rw [this]
        unfold Sm at hsm
        omega
      · rw [← e1]
        exact q _ s3
    · cases hg with
      | @world n ls hn hls =>
        cases hx with
        | @tup a xs _ ha t =>
          cases t with
          | cons h0 t =>
          cases t with
          | cons h1 t =>
          cases t with
          | cons h2 t =>
          cases t
          cases h0
          cases h1
          cases h2 with
          | @tup a3 xs3 _ ha3 t3 =>
          refine ⟨_, rfl, a, _, _, _, rfl, rfl, ha, at_of (j := 0) rfl rfl, rfl, _, rfl, ?_⟩
          refine iteT ?_
          refine ⟨_, rfl, a, _, _, _, rfl, rfl, ha, at_of (j := 1) rfl rfl, _, rfl, fmt_int hn, (by show 1 ≤ sizeLine; decide), fun l1 nl1 => ?_⟩
          have s1 := Same.new (o := .lst [V.str (Str.ofString (toString (n : Int)))]) nl1
          have hl1 : (upd H l1 (.lst [V.str (Str.ofString (toString (n : Int)))])) l1 = some (.lst [V.str (Str.ofString (toString (n : Int)))]) := upd_same
          generalize upd H l1 (.lst [V.str (Str.ofString (toString (n : Int)))]) = H1 at s1 hl1
          refine ⟨_, rfl, a, _, _, _, rfl, rfl, Same.seqT s1 ha, at_of (j := 2) rfl rfl, a3, rfl, ⟨_, Same.seqT s1 ha3⟩, fun Dl hD => ?_⟩
          have x3 := DpAll.len t3
          have ew : wordsD (.tuple [.str "world", .int (n : Int), .tuple ls]) = cl "world" :: (intL (n : Int) :: ls.map pairW) := wordsD_w
          have lb : ls.length ≤ 100000 := by
            have hsm' := hsm
            unfold Sm at hsm'
            rw [ew] at hsm'
            simp only [List.length_cons, List.length_map] at hsm'
            omega
          refine lc_dat (walk_tup (K := K) (a := a3) (xs := xs3)) (K := K) ((ls.map pairW).map fun l => PyData.str (st l)) hD (by rw [List.length_map, List.length_map]; omega) (by omega) (noLs_str _) (fun H' s' => Same.seqT (s1.trans s') ha3) ?_ ?_ gTup2_mono
          · rintro i y H4 H5 e R hi s4 ⟨rfl, hy⟩ hR
            have s14 := s1.trans s4
            obtain ⟨b, hb, hyb⟩ := dpa_at (DpAll.same s14 _ _ t3) hy
            rw [List.getElem?_map, List.getElem?_map, hb] at hi
            have hi := Option.some.inj hi
            subst hi
            obtain ⟨u, v, rfl, hu, hv⟩ := hls b (List.mem_of_getElem? hb)
            cases hyb with
            | @tup p _ _ hp tp =>
            cases tp with
            | cons g0 tp =>
            cases tp with
            | cons g1 tp =>
            cases tp
            cases g0
            cases g1
            refine ⟨p, _, rfl, hp, rfl, _, _, rfl, _, _, rfl, rfl, rfl, ?_⟩
            have e1 : (Str.empty ++ Str.ofString (toString (u : Int))).length ≤ 20 := by
              rw [len_app]
              have := len_int hu
              have e0 : Str.empty.length = 0 := by decide +kernel
              omega
            have e2 : ("-" : Str).length = 1 := by decide +kernel
            refine ⟨_, rfl, .inr ⟨_, rfl, fmt_int hu, _, rfl, Nat.le_trans e1 (by decide), ?_⟩⟩
            refine ⟨_, rfl, by rw [len_app]; exact Nat.le_trans (by omega : _ ≤ 21) (by decide), ?_⟩
            refine ⟨_, rfl, .inr ⟨_, rfl, fmt_int hv, _, rfl, ?_, ?_⟩⟩
            · rw [len_app, len_app]
              have := len_int hv
              exact Nat.le_trans (by omega : _ ≤ 41) (by decide)
            · have ev : Str.empty ++ Str.ofString (toString (u : Int)) ++ ("-" : Str) ++ Str.ofString (toString (v : Int)) = st (pairW (.tuple [.int (u : Int), .int (v : Int)])) := by
                apply cl_inj
                rw [show cl (Str.empty ++ Str.ofString (toString (u : Int)) ++ ("-" : Str) ++ Str.ofString (toString (v : Int))) = ((cl Str.empty ++ cl (Str.ofString (toString (u : Int)))) ++ cl "-") ++ cl (Str.ofString (toString (v : Int))) by
                  rw [show cl (Str.empty ++ Str.ofString (toString (u : Int)) ++ ("-" : Str) ++ Str.ofString (toString (v : Int))) = _ from TL.tl_append _ _, TL.tl_append, TL.tl_append], cl_int, cl_int, cl_st]
                show (([] ++ intL (u : Int)) ++ [45]) ++ intL (v : Int) = intL (u : Int) ++ 45 :: intL (v : Int)
                simp
              show R (V.str (Str.empty ++ Str.ofString (toString (u : Int)) ++ ("-" : Str) ++ Str.ofString (toString (v : Int)))) _
              rw [ev]
              exact hR _ _ (Same.refl _) (.str _)
          · rintro H6 ys s6 hd6 hys
            have ey := dpa_str hys
            subst ey
            refine ⟨l1, Dl, _, _, rfl, rfl, s6 _ _ hl1, hd6, by unfold wV; rw [List.length_map, List.length_map, sizeLine_eq]; simp only [List.length_cons, List.length_nil]; omega, fun p np => ?_⟩
            refine setF ?_
            refine rest _ _ ⟨"world", a, _, p, intL (n : Int) :: ls.map pairW, none, none, none, none, rfl, ew, (s1.trans s6).trans (Same.new np), ha, ?_⟩
            rw [upd_same]
            have e0 : Str.ofString (toString (n : Int)) = st (intL (n : Int)) := by
              apply cl_inj
              rw [cl_int, cl_st]
            rw [e0]
            rfl
      | @step z fm r hf hp =>
        have hz := (forms_wd _ (formOf_mem hf)).1
        have ew : wordsD (.tuple (.str z :: r)) = cl z :: List.zipWith partW fm r := by
          show (if z = "world" then _ else _) = _
          rw [if_neg hz, hf]
          rfl
        obtain ⟨tA2, hdct, hsq2⟩ := F.dct hf
        cases hx with
        | @tup a xs0 _ ha t =>
          obtain ⟨x0, xs, rfl, h0, t2⟩ := dpa_cons t
          cases h0
          have xl := DpAll.len t2
          have gl := gps_len hp
          refine ⟨_, rfl, a, _, _, _, rfl, rfl, ha, at_of (j := 0) rfl rfl, rfl, _, rfl, ?_⟩
          rw [show decide (V.str z = V.str "world") = false from decide_eq_false fun e => hz (V.str.inj e)]
          refine iteF ?_
          refine ⟨_, rfl, a, _, _, _, rfl, rfl, ha, at_of (j := 0) rfl rfl, cF, z, .ref tA2, rfl, rfl, hdct, ?_⟩
          refine ⟨_, rfl, _, rfl, ?_⟩
          refine noPx ?_
          refine slT ha (by simp) fun p H1 s1 hp1 => ?_
          have hp1 : SqT K H1 p xs := hp1
          have lb : r.length ≤ 100000 := by
            have hsm' := hsm
            unfold Sm at hsm'
            rw [ew] at hsm'
            simp only [List.length_cons, List.length_zipWith] at hsm'
            omega
          have ht1 := DpAll.same s1 _ _ t2
          refine ⟨tA2, p, _, _, rfl, .inr ⟨hsq2 _, hp1, fun Dl hD => ?_⟩⟩
          refine lc_dat (walk_zipTT (K := K) (a := tA2) (b := p) (xs := fm.map fun k => V.str k.s) (ys := xs) (n := r.length) (by rw [List.length_map]; omega)) (K := K) ((List.zipWith partW fm r).map fun l => PyData.str (st l)) hD (by rw [List.length_map, List.length_zipWith]; omega) lb (noLs_str _) (fun H' s' => ⟨hsq2 _, Same.seqT s' hp1⟩) ?_ ?_ gTup2_mono
          · rintro i y H4 H5 e R hi s4 ⟨tt, x1, x2, rfl, nt, rfl, e1, e2⟩ hR
            obtain ⟨b, hb, hyb⟩ := dpa_at (DpAll.same s4 _ _ ht1) e2
            have e1 : (fm.map fun k => V.str k.s)[i]? = some x1 := e1
            rw [List.getElem?_map] at e1
            obtain ⟨k, hk, rfl⟩ := Option.map_eq_some_iff.mp e1
            rw [List.getElem?_map, List.getElem?_zipWith, hk, hb] at hi
            have hi := Option.some.inj hi
            subst hi
            have s5 : Same H4 (upd H4 tt (.tup [.str k.s, x2])) := Same.new nt
            refine ⟨tt, _, rfl, .inl (.inl upd_same), rfl, _, _, rfl, _, _, rfl, rfl, rfl, ?_⟩
            exact ⟨_, rfl, _, rfl, k, x2, b, rfl, Dp.same s5 _ _ hyb, gps_get hp hk hb, hR _ _ s5 (.str _)⟩
          · rintro H6 ys s6 hd6 hys
            have ey := dpa_str hys
            subst ey
            refine setF ?_
            exact rest _ _ ⟨z, a, xs, Dl, List.zipWith partW fm r, none, none, none, none, rfl, ew, s1.trans s6, ha, hd6⟩
end
end K19
end
section
namespace K19
open PySem L2 No RZ
theorem wV_eq (ws : List (List Nat)) : wV ws = (ws.map st).map V.str := by
  unfold wV
  rw [List.map_map]
  rfl
/-! ### write_script -/
abbrev swrite_script : Stmt := top 45
abbrev nwrite_script : List Str := ["steps", "step"]
abbrev pwrite_script : List Str := ["steps"]
theorem scwrite_script : FnScope nwrite_script pwrite_script (defScope swrite_script) := ⟨rfl, rfl, rfl, by decide +kernel, rfl, by decide +kernel, by decide +kernel⟩
def spWSc (K : PySem.W.Frag) (C : Addr) : Sp := fun vs H Q E => ∃ (x : V) (d : PyData), vs = [x] ∧ Dp K H x d ∧ Ok3 d ∧ (csO d = none → ∃ ds, d = .tuple ds ∧ (∀ e, e ∈ ds → GSt e ∧ Sm e) ∧ ∀ H', Same H H' → Q (.str (st (TL.joinL [10] (ds.map lineD)))) H') ∧ (csO d = some none → BdN C H E) ∧ (∀ k, csO d = some (some k) → BdI C k H E)
theorem joinL_len : ∀ (ws : List (List Nat)), (TL.joinL [32] ws).length ≤ wsum ws + ws.length
  | [] => by simp [TL.joinL]
  | [l] => by simp [TL.joinL, wsum]
  | l :: m :: r => by
    have := joinL_len (m :: r)
    show (l ++ ([32] ++ TL.joinL [32] (m :: r))).length ≤ _
    rw [List.length_append, List.length_append]
    unfold wsum at this ⊢
    simp only [List.map_cons, List.sum_cons, List.length_cons, List.length_nil] at this ⊢
    omega
theorem lineD_len {d : PyData} (h : Sm d) : (lineD d).length ≤ 4000 := by
  have := joinL_len (wordsD d)
  unfold Sm at h
  unfold lineD
  omega
theorem nl_eq : (Str.ofString "\n") = st [10] := by decide +kernel
theorem join_nl (ws : List (List Nat)) : Txt.join (Str.ofString "\n") (ws.map st) = st (TL.joinL [10] ws) := by
  apply cl_inj
  rw [TL.join_eq, nl_eq]
  rw [show cl (Str.join (st [10]) (ws.map st)) = _ from TL.tl_join _ _, cl_st, List.map_map]
  rw [show (TL.tl ∘ st) = id from rfl, List.map_id]
  rfl
theorem csO_len {ds : List PyData} (h : csO (.tuple ds) = none) : ds.length ≤ 200 := by
  have c0 : csO (.tuple ds) = if 1 ≤ ds.length ∧ ds.length ≤ 200 then (fbS 0 ds).map some else some none := rfl
  rw [c0] at h
  by_cases c : 1 ≤ ds.length ∧ ds.length ≤ 200
  · exact c.2
  · rw [if_neg c] at h
    cases h
theorem wsum_le {ws : List (List Nat)} {n : Nat} (h : ∀ l, l ∈ ws → l.length ≤ n) : wsum ws ≤ ws.length * n := by
  induction ws with
  | nil => simp [wsum]
  | cons l r ih =>
    have h1 := h l List.mem_cons_self
    have h2 := ih fun x hx => h x (List.mem_cons_of_mem _ hx)
    unfold wsum at h2 ⊢
    rw [List.map_cons, List.sum_cons, List.length_cons, Nat.add_mul]
    omega
section
variable {P : Program} {w : World} {K : PySem.W.Frag} {mg : Str → Option Value} {base : Heap}
theorem ok_wsc {f fC fL C : Addr} {fd fdC fdL : FuncData} (D : Dfn K mg "write_script" swrite_script pwrite_script f fd) (DC : Dfn K mg "check_steps" scheck_steps pcheck_steps fC fdC) (GC : FnOk P w K mg base (L2.CX P w) 6 fC fdC pcheck_steps (spCSt K C))
    (DL : Dfn K mg "line_of" sline_of pline_of fL fdL) (GL : FnOk P w K mg base CX0 4 fL fdL pline_of (spLn K)) : FnOk P w K mg base (L2.CX P w) 7 f fd pwrite_script (spWSc K C) := by
  have nd := scwrite_script.nd
  refine D.F.okX scwrite_script (fun vs H Q E h => ?_) (fun cdv A outer s0 H vs Q E hr h => ?_)
  · obtain ⟨x, d, rfl, _⟩ := h
    rfl
  · obtain ⟨x, d, rfl, hx, ok, q0, q1, q2⟩ := h
    have hr4 : Room 4 _ := hr.mono (by decide)
    refine ⟨_, pss_cons (ps_expr (pe_callS GC hr (by rfl) DC.g DC.F.kp DC.b (fun σ => passAt (takes_of rfl rfl rfl rfl) σ) (by exact (pa_cons (pv 0) pa_nil))))
      (pss_one (ps_ret (pe_join pe_str (pe_lc (own := [("step", 1)]) (g := gName 1) (tt := tYes) (te := tCall (spLn K) [] E0 (tCons (tVar 1) tNil)) rfl nd (pi_tup (pv 0)) (blkOk_by (N := nwrite_script) (sc := defScope swrite_script) (by decide +kernel)) (fun _ _ _ _ _ => pg_name (i := 1) nd rfl (.inl rfl)) (fun _ _ _ _ _ => pts_nil) (fun _ _ _ _ _ => by exact (pe_call GL hr4 (by rfl) DL.g DL.F.kp DL.b .nil pass0 (pa_cons (pv 1) pa_nil))))))), ?_⟩
    refine ⟨_, rfl, x, d, rfl, hx, ok, fun e0 H1 s1 => ?_, fun e1 => q1 e1, fun k e2 => q2 k e2⟩
    obtain ⟨ds, rfl, hg, q⟩ := q0 e0
    have dl := csO_len e0
    cases hx with
    | @tup a xs _ ha t =>
    have xl := DpAll.len t
    refine ⟨⟨_, rfl⟩, _, rfl, a, rfl, ⟨_, Same.seqT s1 ha⟩, fun Dl hD => ?_⟩
    refine lc_dat (walk_tup (K := K) (a := a) (xs := xs)) (K := K) ((ds.map lineD).map fun l => PyData.str (st l)) hD (by rw [List.length_map, List.length_map]; omega) (by omega) (noLs_str _) (fun H' s' => Same.seqT (s1.trans s') ha) ?_ ?_ gName_mono
    · rintro i y H4 H5 e R hi s4 ⟨rfl, hy⟩ hR
      obtain ⟨b, hb, hyb⟩ := dpa_at (DpAll.same (s1.trans s4) _ _ t) hy
      rw [List.getElem?_map, List.getElem?_map, hb] at hi
      have hi := Option.some.inj hi
      subst hi
      obtain ⟨g1, g2⟩ := hg b (List.mem_of_getElem? hb)
      exact ⟨rfl, _, rfl, y, b, rfl, hyb, g1, g2, fun H' s' => hR _ _ s' (.str _)⟩
    · rintro H6 ys s6 hd6 hys
      have ey := dpa_str hys
      subst ey
      refine ⟨Str.ofString "\n", Dl, (ds.map lineD).map st, rfl, rfl, .inl (SqL.of (by rw [hd6, wV_eq])), ?_, ?_⟩
      · rw [sum_st, List.length_map, List.length_map]
        have h1 : (Str.ofString "\n").length = 1 := by decide +kernel
        rw [h1]
        have h2 := wsum_le (ws := ds.map lineD) (n := 4000) fun l hl => by
          obtain ⟨e, he, rfl⟩ := List.mem_map.mp hl
          exact lineD_len (hg e he).2
        rw [List.length_map] at h2
        omega
      · rw [join_nl]
        exact q _ (s1.trans s6)
end
/-! ### read_script -/
abbrev sread_script : Stmt := top 46
abbrev nread_script : List Str := ["text", "steps", "index", "line", "step"]
abbrev pread_script : List Str := ["text"]
theorem scread_script : FnScope nread_script pread_script (defScope sread_script) := ⟨rfl, rfl, rfl, by decide +kernel, rfl, by decide +kernel, by decide +kernel⟩
def spRS (K : PySem.W.Frag) (C : Addr) : Sp := fun vs H Q E => ∃ (x : Str) (ps : List (List Nat)), vs = [.str x] ∧ x.length ≤ 100000 ∧ Txt.split x (Str.ofString "\n") = ps.map st ∧ (∀ l, l ∈ ps → l.length ≤ 100000) ∧ ps.length ≤ 100000 ∧
  (∀ k, rdF 0 ps = .error k → BdI C k H E) ∧ (∀ ds, rdF 0 ps = .ok ds → ∀ (v : V) (H' : Hp), Same H H' → Dp K H' v (.tuple ds) → Q v H')
theorem noL_fl (v : V) : noL (fl v) = true := by
  cases v <;> (unfold fl noL; rfl)
theorem step_shape {l : List Nat} {d : PyData} (h : stepTd l = some d) : (∃ z r, d = .tuple (.str z :: r)) ∧ noL d = true := by
  unfold stepTd at h
  split at h
  · cases h
  · cases h
  · rename_i w0 r e
    split at h
    · unfold worldTd at h
      split at h
      · rename_i a n r' e2
        split at h
        · split at h
          · cases h
          · rename_i ds e3
            cases h
            refine ⟨⟨_, _, rfl⟩, ?_⟩
            rw [links_get] at e3
            split at e3
            · cases e3
            · have e3 := Option.some.inj e3
              subst e3
              have h2 : noLs (r'.map fun l => (linkTd l).getD .none) = true := noLs_mem.mpr fun d hd => by
                obtain ⟨y, _, rfl⟩ := List.mem_map.mp hd
                exact (link_pl y).2.1
              simp only [noL, noLs, noL_fl, h2, Bool.and_self]
        · cases h
      · cases h
    · split at h
      · cases h
      · split at h
        · cases h
          refine ⟨⟨_, _, rfl⟩, ?_⟩
          have h2 : ∀ l : List V, noLs (l.map fl) = true := fun l => noLs_mem.mpr fun d hd => by
            obtain ⟨y, _, rfl⟩ := List.mem_map.mp hd
            exact noL_fl y
          simp only [noL, noLs, h2, Bool.and_self]
        · cases h
theorem rdF_cons {i : Nat} {l : List Nat} {r : List (List Nat)} : rdF i (l :: r) = match stepTd l with
    | none => .error i
    | some d => if (decide (i = 200) || (isWd d != decide (i = 0))) = true then .error i else match rdF (i + 1) r with
      | .error k => .error k
      | .ok ds => .ok (d :: ds) := rfl
section
variable {P : Program} {w : World} {K : PySem.W.Frag} {mg : Str → Option Value} {base : Heap}
theorem ok_rs {f fT C fI : Addr} {fd fdT : FuncData} (D : Dfn K mg "read_script" sread_script pread_script f fd) (B : Bi mg) (en : mg "enumerate" = none) (MS : ∃ t, mg "MOST_STEPS" = some (.int 200 t)) (TI : PySem.WrI.WrTxt P K mg "BadLine" C fI)
    (DT : Dfn K mg "step_told" sstep_told pstep_told fT fdT) (GT : FnOk P w K mg base CX0 7 fT fdT pstep_told (spSTd K)) : FnOk P w K mg base (L2.CX P w) 8 f fd pread_script (spRS K C) := by
  have nd := scread_script.nd
  obtain ⟨tm, hms⟩ := MS
  refine D.F.okX scread_script (fun vs H Q E h => ?_) (fun cdv A outer s0 H vs Q E hr h => ?_)
  · obtain ⟨x, ps, rfl, _⟩ := h
    rfl
  · obtain ⟨x, ps, rfl, hl, hsp, hw, hn, qe, qo⟩ := h
    have hlen := len_line hl
    refine ⟨_, pss_cons (ps_if (pt_cmpR op_notTyB (pe_callTy call_type1 (by rfl) B.type (by decide +kernel) (pa_cons (pv 0) pa_nil)) (pe_bltn (v := .ty "str") (by rfl) B.str (by decide +kernel) rfl) (nomark _)) (pss_one ps_never) pss_nil)
      (pss_cons (ps_set (i := 1) nd rfl (.inl rfl) (pe_lst pa_nil))
      (pss_cons (ps_for (passes_of rfl) rfl (pi_enum (by rfl) en (pa_cons (pe_split (pv 0) pe_str) pa_nil)) (pg_tup rfl (pgs_cons (pg_name (i := 2) nd rfl (.inl rfl)) (pgs_cons (pg_name (i := 3) nd rfl (.inl rfl)) pgs_nil)))
        (pss_cons (ps_set (i := 4) nd rfl (.inl rfl) (pe_call GT hr (by rfl) DT.g DT.F.kp DT.b .nil pass0 (pa_cons (pv 3) pa_nil)))
        (pss_cons (ps_if (PW.pt (pw_or (pt_cmpR op_eq (pv 2) (pe_glob (v := .int 200) rfl hms ⟨_, rfl⟩) (nomark _)) (pw_or (pt_cmpR op_isN (pv 4) pe_non (nomark _)) (pw_or1 (pt_cmpR op_ne (pe_cmpR op_eq (pe_ix (r := rIxT K) ix_tup (pv 4) pe_int (fun _ _ => rfl)) pe_str (nomark _)) (pe_cmpR op_eq (pv 2) pe_int (nomark _)) (nomark _))))))
          (pss_one (ps_raiseWi rfl TI hr (takes_of rfl rfl rfl rfl) (by exact (pa_cons (pv 2) pa_nil)) (by rfl))) pss_nil)
        (pss_one (ps_expr (pe_bm PySem.F.plainAttrs_list PySem.F.slot_list_append PySem.F.type_list_append mt_append (pv 1) (pa_cons (pv 4) pa_nil)))))))
      (pss_one (ps_ret (pe_callTy call_tuple_of (by rfl) B.tuple (by decide +kernel) (pa_cons (pv 1) pa_nil)))))), ?_⟩
    refine ⟨_, rfl, _, _, rfl, .str x, _, _, rfl, rfl, _, rfl, ?_⟩
    refine iteF ?_
    refine ⟨(by show 0 ≤ sizeLine; decide), fun sl nsl => ?_⟩
    have s1 := Same.new (o := .lst []) nsl
    have hsl : (upd H sl (.lst [])) sl = some (.lst []) := upd_same
    generalize upd H sl (.lst []) = H1 at s1 hsl
    refine setF ?_
    refine ⟨_, rfl, ⟨_, rfl⟩, x, Str.ofString "\n", rfl, rfl, (by decide +kernel), ?_, fun pl npl => ?_⟩
    · exact Nat.le_trans (Nat.add_le_add_right hl 2) (by decide)
    rw [hsp]
    have s2 := s1.trans (Same.new (o := .lst ((ps.map st).map V.str)) npl)
    have hsl2 := (Same.new (o := .lst ((ps.map st).map V.str)) npl) _ _ hsl
    have hpl : (upd H1 pl (.lst ((ps.map st).map V.str))) pl = some (.lst (wV ps)) := by
      rw [upd_same]
      unfold wV
      rw [List.map_map]
      rfl
    generalize upd H1 pl (.lst ((ps.map st).map V.str)) = H2 at s2 hsl2 hpl
    have ne : sl ≠ pl := fun e => by rw [e, npl] at hsl; cases hsl
    have pll : (wV ps).length = ps.length := by unfold wV; rw [List.length_map]
    refine ⟨pl, _, rfl, SqL.of hpl, ?_⟩
    refine for_it (walk_enum (K := K) (a := pl) (xs := wV ps)) (fun i σ H3 => ∃ (v2 v3 v4 : Option V) (ys : List V) (done : List PyData), σ = [some (.str x), some (.ref sl), v2, v3, v4] ∧ Same H H3 ∧ H3 pl = some (.lst (wV ps)) ∧ H3 sl = some (.lst ys) ∧ DpAll K H3 ys done ∧ noLs done = true ∧ ys.length ≤ i ∧
        rdF 0 ps = (match rdF i (ps.drop i) with | .error k => .error k | .ok ds => .ok (done ++ ds))) ?_ ?_ ?_ ?_
    · refine ⟨none, none, none, [], [], rfl, s2, hpl, hsl2, .nil, by unfold noLs; rfl, Nat.zero_le _, ?_⟩
      rw [List.drop_zero]
      cases rdF 0 ps <;> rfl
    · rintro i σ H3 hi ⟨_, _, _, _, _, _, _, h3, _⟩
      exact SqL.of h3
    · rintro i y σ H3 H4 hi ⟨v2, v3, v4, ys, done, rfl, s3, hp3, hs3, hys, hnl, hyl, hrd⟩ ⟨Tt, x1, x2, rfl, nT, rfl, e1, e2⟩
      obtain ⟨u, hu, rfl⟩ := wV_get e2
      have e1 : V.int (i : Int) = x1 := Option.some.inj e1
      subst e1
      have hi' : i < ps.length := (List.getElem?_eq_some_iff.mp hu).1
      have hdr : ps.drop i = u :: ps.drop (i + 1) := by
        rw [List.drop_eq_getElem_cons hi']
        congr 1
        exact (List.getElem?_eq_some_iff.mp hu).2
      rw [hdr, rdF_cons] at hrd
      have s4 := Same.new (o := .tup [.int (i : Nat), V.str (st u)]) nT
      refine ⟨Tt, [V.int (i : Int), V.str (st u)], rfl, .inl (.inl upd_same), rfl, _, _, rfl, _, _, rfl, rfl, ?_⟩
      have s34 := s3.trans s4
      have hp4 := s4 _ _ hp3
      have hs4 := s4 _ _ hs3
      have hys4 := DpAll.same s4 _ _ hys
      generalize upd H3 Tt (.tup [.int (i : Nat), V.str (st u)]) = H4 at s34 hp4 hs4 hys4
      refine ⟨_, rfl, st u, rfl, by rw [st_len]; exact hw u (List.mem_of_getElem? hu), fun v H5 s5 hv => ?_⟩
      rw [cl_st] at hv
      have s35 := s34.trans s5
      have hp5 := s5 _ _ hp4
      have hs5 := s5 _ _ hs4
      have hys5 := DpAll.same s5 _ _ hys4
      refine setF ?_
      refine ⟨_, rfl, rfl, _, rfl, ?_⟩
      by_cases h200 : i = 200
      · rw [show decide (V.int (i : Int) = V.int 200) = true from decide_eq_true (by rw [h200]; rfl)]
        refine iteT ?_
        refine iteT ?_
        refine ⟨_, rfl, (i : Int), rfl, smallN (by omega), fun dd hdd => qe i ?_ dd _ (s35.trans (Same.new hdd)) upd_same⟩
        rw [hrd]
        cases stepTd u with
        | none => rfl
        | some d =>
          dsimp only
          rw [if_pos (by rw [decide_eq_true h200, Bool.true_or])]
      · rw [show decide (V.int (i : Int) = V.int 200) = false from decide_eq_false fun e => h200 (by injection e with e; omega)]
        rw [show decide (i = 200) = false from decide_eq_false h200] at hrd
        refine iteF ?_
        refine ⟨_, rfl, rfl, _, rfl, ?_⟩
        cases hst : stepTd u with
        | none =>
          rw [hst] at hv hrd
          have hv : Dp K H5 v .none := hv
          cases hv
          refine iteT ?_
          refine iteT ?_
          exact ⟨_, rfl, (i : Int), rfl, smallN (by omega), fun dd hdd => qe i hrd dd _ (s35.trans (Same.new hdd)) upd_same⟩
        | some d =>
          obtain ⟨⟨z, r, rfl⟩, hnd⟩ := step_shape hst
          rw [hst] at hv hrd
          have hv : Dp K H5 v (.tuple (.str z :: r)) := hv
          have hv0 := hv
          cases hv with
          | @tup a2 xs2 _ h2 t2 =>
          obtain ⟨x0, xs3, rfl, h0, t3⟩ := dpa_cons t2
          cases h0
          refine iteF ?_
          refine ⟨_, rfl, a2, _, _, _, rfl, rfl, h2, at_of (j := 0) rfl rfl, rfl, _, rfl, rfl, rfl, _, rfl, ?_⟩
          have ew : (!decide (V.bl (decide (V.str z = V.str "world")) = V.bl (decide (V.int (i : Int) = V.int 0)))) = (isWd (.tuple (.str z :: r)) != decide (i = 0)) := by
            rw [bne_V]
            congr 1
            · show _ = decide (z = "world")
              rw [decide_eq_decide]
              exact ⟨fun e => V.str.inj e, fun e => by rw [e]⟩
            · rw [decide_eq_decide]
              exact ⟨fun e => by injection e with e; omega, fun e => by rw [e]; rfl⟩
          rw [ew]
          dsimp only at hrd
          rw [Bool.false_or] at hrd
          cases hb : isWd (.tuple (.str z :: r)) != decide (i = 0) with
          | true =>
            rw [hb, if_pos rfl] at hrd
            refine iteT ?_
            exact ⟨_, rfl, (i : Int), rfl, smallN (by omega), fun dd hdd => qe i hrd dd _ (s35.trans (Same.new hdd)) upd_same⟩
          | false =>
            rw [hb, if_neg Bool.false_ne_true] at hrd
            refine iteF ?_
            refine ⟨_, rfl, .inl ⟨rfl, _, SqL.of hs5⟩, _, rfl, sl, _, _, rfl, rfl, hs5, by rw [sizeLine_eq]; omega, ?_⟩
            refine ⟨_, _, _, ys ++ [.ref a2], done ++ [.tuple (.str z :: r)], rfl, fun b o hb' => ?_, ?_, upd_same, ?_, ?_, by rw [List.length_append, List.length_singleton]; omega, ?_⟩
            · rw [upd_ne (ne_of_none hb' nsl)]
              exact s35 _ _ hb'
            · rw [upd_ne ne.symm]
              exact hp5
            · exact dps_snoc (dp_up hs5 _ _ hnd hv0) (dps_up hs5 _ _ hnl hys5)
            · refine noLs_mem.mpr fun e he => ?_
              rcases List.mem_append.mp he with he | he
              · exact noLs_mem.mp hnl e he
              · rw [List.mem_singleton.mp he]
                exact hnd
            · rw [hrd]
              cases rdF (i + 1) (ps.drop (i + 1)) with
              | error k => rfl
              | ok ds => simp
    · rintro σ H3 ⟨v2, v3, v4, ys, done, rfl, s3, hp3, hs3, hys, hnl, hyl, hrd⟩
      rw [pll, List.drop_length] at hrd
      have hrd : rdF 0 ps = .ok (done ++ []) := hrd
      rw [List.append_nil] at hrd
      refine ⟨_, rfl, sl, ys, rfl, .inl ⟨SqL.of hs3, fun t nt => ?_⟩⟩
      have s4 := Same.new (o := .tup ys) nt
      exact qo done hrd _ _ (s3.trans s4) (.tup (.inl (.inl upd_same)) (DpAll.same s4 _ _ hys))
end
end K19
end
section
namespace K19
open PySem L2 No RZ
/-! ### the law's own: links -/
def TKl (H H' : Hp) : Prop := ∀ b o, (∀ xs, o ≠ HO.lst xs) → H b = some o → H' b = some o
theorem TKl.refl (H : Hp) : TKl H H := fun _ _ _ h => h
theorem TKl.trans {H H1 H2 : Hp} (a : TKl H H1) (b : TKl H1 H2) : TKl H H2 := fun c o n h => b c o n (a c o n h)
theorem TKl.same {H H1 : Hp} (a : Same H H1) : TKl H H1 := fun c o _ h => a c o h
theorem TKl.row {K : PySem.W.Frag} {r sc : Addr} {ns : List Int} {H H1 : Hp} (R : RowI K H r sc ns) (a : Keep r H H1) : TKl H H1 := by
  obtain ⟨⟨n, x, z, h2, _⟩, _⟩ := R
  exact fun c o n h => a c o (fun e => by rw [e, h2] at h; exact n _ (Option.some.inj h).symm) h
theorem TKl.upd {p : Addr} {H : Hp} {l : List V} {o : HO} (hp : H p = some (.lst l)) : TKl H (L2.upd H p o) := fun c u n h => by
  rw [upd_ne (fun e => by rw [e, hp] at h; exact n _ (Option.some.inj h).symm)]
  exact h
theorem TKl.seqT {K : PySem.W.Frag} {H H' : Hp} {a : Addr} {xs : List V} (e : TKl H H') (h : SqT K H a xs) : SqT K H' a xs := by
  rcases h with (h | ⟨o, h⟩) | h
  · exact .inl (.inl (e _ _ (fun _ z => by cases z) h))
  · exact .inl (.inr ⟨o, e _ _ (fun _ z => by cases z) h⟩)
  · exact .inr h
mutual
theorem dp_tkl {K : PySem.W.Frag} {H H' : Hp} (e : TKl H H') : ∀ (d : PyData) (x : V), noL d = true → Dp K H x d → Dp K H' x d
  | .none, _, _, .non => .non
  | .bool _, _, _, .bl b => .bl b
  | .int _, _, _, .int i => .int i
  | .str _, _, _, .str s => .str s
  | .list _, _, n, _ => by unfold noL at n; cases n
  | .tuple ds, _, n, .tup h t => .tup (e.seqT h) (dps_tkl e ds _ (by unfold noL at n; exact n) t)
theorem dps_tkl {K : PySem.W.Frag} {H H' : Hp} (e : TKl H H') : ∀ (ds : List PyData) (xs : List V), noLs ds = true → DpAll K H xs ds → DpAll K H' xs ds
  | [], _, _, .nil => .nil
  | d :: r, _, n, .cons h t => .cons (dp_tkl e d _ (by unfold noLs at n; rw [Bool.and_eq_true] at n; exact n.1) h) (dps_tkl e r _ (by unfold noLs at n; rw [Bool.and_eq_true] at n; exact n.2) t)
end
def prD (p : Nat × Nat) : PyData := .tuple [.int (p.1 : Int), .int (p.2 : Int)]
theorem prD_noL (l : List (Nat × Nat)) : noLs (l.map prD) = true := noLs_mem.mpr fun d hd => by
  obtain ⟨p, _, rfl⟩ := List.mem_map.mp hd
  unfold prD
  simp only [noL, noLs, Bool.and_self]
theorem dpa_appL {K : PySem.W.Frag} {H : Hp} : ∀ {xs ys : List V} {ds es : List PyData}, DpAll K H xs ds → DpAll K H ys es → DpAll K H (xs ++ ys) (ds ++ es)
  | _, _, _, _, .nil, h => h
  | _, _, _, _, .cons a t, h => .cons a (dpa_appL t h)
/-- a list of few pairs of small numbers -/
def PrL (K : PySem.W.Frag) (H : Hp) (l : Addr) : Prop := ∃ (ys : List V) (ps : List (Nat × Nat)), H l = some (.lst ys) ∧ DpAll K H ys (ps.map prD) ∧ ps.length ≤ 32 ∧ ∀ p, p ∈ ps → p.1 ≤ 8 ∧ p.2 ≤ 8
theorem PrL.same {K : PySem.W.Frag} {H H' : Hp} {l : Addr} (h : PrL K H l) (s : Same H H') : PrL K H' l := by
  obtain ⟨ys, ps, h1, h2, h3⟩ := h
  exact ⟨ys, ps, s _ _ h1, DpAll.same s _ _ h2, h3⟩
theorem dpa_ks {K : PySem.W.Frag} {H : Hp} : ∀ {ps : List (Nat × Nat)} {ys : List V}, DpAll K H ys (ps.map prD) → ∃ ks : List (Addr × List Int), ys = ks.map (fun p => V.ref p.1) ∧ (∀ p, p ∈ ks → SqT K H p.1 (p.2.map V.int)) ∧ ks.map (·.2) = ps.map fun p => [(p.1 : Int), (p.2 : Int)]
  | [], _, .nil => ⟨[], rfl, (fun p h => nomatch h), rfl⟩
  | p :: ps, _, .cons h t => by
    obtain ⟨ks, h1, h2, h3⟩ := dpa_ks t
    subst h1
    cases h with
    | @tup a xs _ ha t2 =>
    obtain ⟨x0, xs1, rfl, g0, t3⟩ := dpa_cons t2
    obtain ⟨x1, xs2, rfl, g1, t4⟩ := dpa_cons t3
    cases t4
    cases g0
    cases g1
    refine ⟨(a, [(p.1 : Int), (p.2 : Int)]) :: ks, rfl, fun q hq => ?_, by rw [List.map_cons, h3]; rfl⟩
    rcases List.mem_cons.mp hq with rfl | hq
    · exact ha
    · exact h2 q hq
abbrev s_law_links : Stmt := top 49
abbrev n_law_links : List Str := ["row", "many", "way", "line", "rows", "k"]
abbrev p_law_links : List Str := ["row", "many"]
theorem sc_law_links : FnScope n_law_links p_law_links (defScope s_law_links) := ⟨rfl, rfl, rfl, by decide +kernel, rfl, by decide +kernel, by decide +kernel⟩
def spLks (K : PySem.W.Frag) : Sp := fun vs H Q _ => ∃ (r sc : Addr) (ns : List Int) (many : Nat), vs = [.ref r, .int (many : Int)] ∧ RowI K H r sc ns ∧ 2 ≤ many ∧ many ≤ 8 ∧
  ∀ (v : V) (H' : Hp) (ls : List PyData), RowI K H' r sc ns → Keep r H H' → Dp K H' v (.tuple ls) → (∀ d, d ∈ ls → PairN d) → noLs ls = true → ls.length ≤ 64 → Q v H'
def tP1 : TE := tTup (tCons (tVar 5) (tCons (tOp (rI0 fun i j => .int (i + j)) (tVar 5) (tC (.int 1))) tNil))
def tP2 : TE := tTup (tCons (tC (.int 0)) (tCons (tVar 5) tNil))
def tP3 : TE := tTup (tCons (tVar 5) (tCons (tOp (rI0 fun i j => .int (i - j)) (tVar 1) (tC (.int 1))) tNil))
theorem dp_int {K : PySem.W.Frag} {H : Hp} {x : V} {i : Int} (h : x = V.int i) : Dp K H x (.int i) := by
  subst h
  exact .int i
theorem pair_map (n : Nat) (f g : Nat → Nat) (hf : ∀ i, i < n → f i ≤ 8 ∧ g i ≤ 8) : ∀ p, p ∈ (List.range n).map (fun i => (f i, g i)) → p.1 ≤ 8 ∧ p.2 ≤ 8 := fun p hp => by
  obtain ⟨i, hi, rfl⟩ := List.mem_map.mp hp
  exact hf i (List.mem_range.mp hi)
theorem range_at {n i : Nat} {f : Nat → Nat × Nat} {d : PyData} (h : ((((List.range n).map f).map prD))[i]? = some d) : i < n ∧ d = prD (f i) := by
  rw [List.getElem?_map, List.getElem?_map] at h
  cases e : (List.range n)[i]? with
  | none => rw [e] at h; cases h
  | some k =>
    rw [e] at h
    have hi : i < n := by
      have := (List.getElem?_eq_some_iff.mp e).1
      rw [List.length_range] at this
      exact this
    rw [List.getElem?_range hi] at e
    cases e
    exact ⟨hi, (Option.some.inj h).symm⟩
theorem asgFL {te : TE} {g : TG} {u : TS} {D : Ends} {σ : L2.St} {H : Hp} (h : te σ H fun v H' => g v σ H' fun σ' H'' => u D σ' H'') : tSeq (tAsg te g) u D σ H := h
section
variable {P : Program} {w : World} {K : PySem.W.Frag} {mg : Str → Option Value} {base : Heap}
theorem ok_lks {f fT : Addr} {fd fdT : FuncData} (D : Dfn K mg "_law_links" s_law_links p_law_links f fd) (B : Bi mg) (so : mg "sorted" = none) (se : mg "set" = none) (DT : Dfn K mg "_law_taken" s_law_taken p_law_taken fT fdT) (GT : FnOk P w K mg base CX0 1 fT fdT p_law_taken (spTaken K)) : FnOk P w K mg base CX0 2 f fd p_law_links (spLks K) := by
  have nd := sc_law_links.nd
  refine D.F.ok sc_law_links (fun vs H Q E h => ?_) (fun cdv A outer s H vs Q E hr h => ?_)
  · obtain ⟨r, sc, ns, many, rfl, _⟩ := h
    rfl
  · obtain ⟨r, sc, ns, many, rfl, R, m2, m8, q⟩ := h
    refine ⟨_, pss_cons (ps_par (i := 2) (j := 3) (by rfl) nd rfl rfl (by decide) rfl rfl (pa_cons (pe_call GT hr (by rfl) DT.g DT.F.kp DT.b .nil pass0 (pa_cons (pv 0) (pa_cons pe_int pa_nil)))
        (pa_cons (pe_lc (own := [("k", 5)]) (g := gName 5) (tt := tYes) (te := tP1) rfl nd (pi_range1 (by rfl) B.range (pa_cons (pe_op op_sub (pv 1) pe_int) pa_nil)) (blkOk_by (N := n_law_links) (sc := defScope s_law_links) (by decide +kernel)) (fun _ _ _ _ _ => pg_name (i := 5) nd rfl (.inl rfl)) (fun _ _ _ _ _ => pts_nil) (fun _ _ _ _ _ => by exact (pe_tup (pa_cons (pv 5) (pa_cons (pe_op op_add (pv 5) pe_int) pa_nil))))) pa_nil)) (by rfl))
      (pss_cons (ps_set (i := 4) nd rfl (.inl rfl) (pe_lst (pa_cons (pv 3) (pa_cons
        (pe_lc (own := [("k", 5)]) (g := gName 5) (tt := tYes) (te := tP2) rfl nd (pi_range2 (by rfl) B.range (pa_cons pe_int (pa_cons (pv 1) pa_nil))) (blkOk_by (N := n_law_links) (sc := defScope s_law_links) (by decide +kernel)) (fun _ _ _ _ _ => pg_name (i := 5) nd rfl (.inl rfl)) (fun _ _ _ _ _ => pts_nil) (fun _ _ _ _ _ => by exact (pe_tup (pa_cons pe_int (pa_cons (pv 5) pa_nil)))))
        (pa_cons (pe_op op_cat (pv 3) (pe_lst (pa_cons (pe_tup (pa_cons pe_int (pa_cons (pe_op op_sub (pv 1) pe_int) pa_nil))) pa_nil))) pa_nil)))))
      (pss_cons (ps_set (i := 4) nd rfl (.inl rfl) (pe_op op_cat (pv 4) (pe_lst (pa_cons (pe_op op_cat (pv 3)
        (pe_lc (own := [("k", 5)]) (g := gName 5) (tt := tYes) (te := tP3) rfl nd (pi_range1 (by rfl) B.range (pa_cons (pe_op op_sub (pv 1) pe_int) pa_nil)) (blkOk_by (N := n_law_links) (sc := defScope s_law_links) (by decide +kernel)) (fun _ _ _ _ _ => pg_name (i := 5) nd rfl (.inl rfl)) (fun _ _ _ _ _ => pts_nil) (fun _ _ _ _ _ => by exact (pe_tup (pa_cons (pv 5) (pa_cons (pe_op op_sub (pv 1) pe_int) pa_nil)))))) pa_nil))))
      (pss_one (ps_ret (pe_callTy call_tuple_of (by rfl) B.tuple (by decide +kernel) (pa_cons (pe_callB (cr_sortedT rfl) (by rfl) so (by decide +kernel) (pa_cons (pe_callTy (cr_setOfT rfl hr.units) (by rfl) se (by decide +kernel) (pa_cons (pe_ix (r := rIxL K) ix_list (pv 4) (pv 2) (fun _ _ => rfl)) pa_nil)) pa_nil)) pa_nil)))))), ?_⟩
    refine ⟨_, rfl, r, sc, ns, 4, rfl, R, by decide, by decide, fun v H1 v0 v1 R1 k1 => ?_⟩
    obtain ⟨way, rfl⟩ := Int.eq_ofNat_of_zero_le v0
    have hs : Same H1 H1 := Same.refl _
    refine ⟨_, rfl, _, _, rfl, rfl, (many : Int) - 1, rfl, by omega, by omega, fun D1 hD1 => ?_⟩
    have em : ((many : Int) - 1).toNat = many - 1 := by omega
    rw [em]
    refine lc_dat (walk_range (lo := 0) (n := many - 1)) (K := K) (((List.range (many - 1)).map fun i => (i, i + 1)).map prD) hD1 (by rw [List.length_map, List.length_map, List.length_range]) (by omega) (prD_noL _) (fun H' s' => trivial) ?_ ?_ gName_mono
    · rintro i y H4 H5 e Rr hi s4 ⟨rfl, rfl⟩ hR
      obtain ⟨hi, rfl⟩ := range_at hi
      refine ⟨rfl, ?_⟩
      refine ⟨_, rfl, _, rfl, _, _, rfl, rfl, (by show 2 ≤ sizeLine; decide), fun t nt => ?_⟩
      exact hR _ _ (Same.new nt) (.tup (.inl (.inl upd_same)) (.cons (dp_int (show V.int (0 + (i : Int)) = V.int ((i : Nat) : Int) by congr 1; omega)) (.cons (dp_int (show V.int (0 + (i : Int) + 1) = V.int ((i + 1 : Nat) : Int) by congr 1; omega)) .nil)))
    rintro H2 ys s2 hd2 hys
    have P1 : PrL K H2 D1 := ⟨ys, _, hd2, hys, by rw [List.length_map, List.length_range]; omega, pair_map _ (fun i => i) (fun i => i + 1) fun i hi => ⟨by omega, by omega⟩⟩
    refine ⟨_, _, rfl, ?_⟩
    -- rows
    refine nxE ?_
    refine asgFL ?_
    refine ⟨_, rfl, _, rfl, 1, (many : Int), rfl, ⟨by decide, by decide, by omega, by omega⟩, fun D2 hD2 => ?_⟩
    have em2 : ((many : Int) - 1).toNat = many - 1 := by omega
    rw [em2]
    refine lc_dat (walk_range (lo := 1) (n := many - 1)) (K := K) (((List.range (many - 1)).map fun i => (0, i + 1)).map prD) hD2 (by rw [List.length_map, List.length_map, List.length_range]) (by omega) (prD_noL _) (fun H' s' => trivial) ?_ ?_ gName_mono
    · rintro i y H4 H5 e Rr hi s4 ⟨rfl, rfl⟩ hR
      obtain ⟨hi, rfl⟩ := range_at hi
      refine ⟨rfl, ?_⟩
      refine ⟨_, rfl, (by show 2 ≤ sizeLine; decide), fun t nt => ?_⟩
      exact hR _ _ (Same.new nt) (.tup (.inl (.inl upd_same)) (.cons (.int _) (.cons (dp_int (show V.int (1 + (i : Int)) = V.int ((i + 1 : Nat) : Int) by congr 1; omega)) .nil)))
    rintro H3 ys3 s3 hd3 hys3
    have P2 : PrL K H3 D2 := ⟨ys3, _, hd3, hys3, by rw [List.length_map, List.length_range]; omega, pair_map _ (fun _ => 0) (fun i => i + 1) fun i hi => ⟨by omega, by omega⟩⟩
    have P13 := P1.same s3
    refine ⟨_, rfl, _, rfl, _, _, rfl, rfl, (by show 2 ≤ sizeLine; decide), fun t nt => ?_⟩
    have s4 := Same.new (o := .tup [.int 0, .int ((many : Int) - 1)]) nt
    have ht : (upd H3 t (.tup [.int 0, .int ((many : Int) - 1)])) t = some (.tup [.int 0, .int ((many : Int) - 1)]) := upd_same
    have P14 := P13.same s4
    have P24 := P2.same s4
    generalize upd H3 t (.tup [.int 0, .int ((many : Int) - 1)]) = H4 at s4 ht P14 P24
    refine ⟨(by show 1 ≤ sizeLine; decide), fun l1 nl1 => ?_⟩
    have s5 := Same.new (o := .lst [.ref t]) nl1
    have hl1 : (upd H4 l1 (.lst [.ref t])) l1 = some (.lst [.ref t]) := upd_same
    have ht5 := s5 _ _ ht
    have P15 := P14.same s5
    have P25 := P24.same s5
    generalize upd H4 l1 (.lst [.ref t]) = H5 at s5 hl1 ht5 P15 P25
    have P15c := P15
    obtain ⟨za, pa, ha1, ha2, ha3, ha4⟩ := P15c
    have zl := DpAll.len ha2
    rw [List.length_map] at zl
    have pal : pa.length ≤ 8 := by
      obtain ⟨ys0, ps0, g1, g2, g3, g4⟩ := P1
      have e1 := (s3.trans (s4.trans s5)) _ _ hd2
      rw [ha1] at e1
      cases e1
      have := DpAll.len hys
      rw [List.length_map, List.length_map, List.length_range] at this
      omega
    refine ⟨D1, l1, za, [.ref t], rfl, rfl, ha1, hl1, by rw [sizeLine_eq]; simp only [List.length_cons, List.length_nil]; omega, fun D3 nD3 => ?_⟩
    have s6 := Same.new (o := .lst (za ++ [.ref t])) nD3
    have em3 : ((many : Int) - 1) = ((many - 1 : Nat) : Int) := by omega
    have P36 : PrL K (upd H5 D3 (.lst (za ++ [.ref t]))) D3 := ⟨_, pa ++ [(0, many - 1)], upd_same, by
      rw [List.map_append]
      refine DpAll.same s6 _ _ (dpa_appL ha2 (.cons (.tup (.inl (.inl ht5)) (.cons (.int _) (.cons (dp_int (by show V.int ((many : Int) - 1) = V.int ((many - 1 : Nat) : Int); rw [em3])) .nil))) .nil)), by rw [List.length_append, List.length_singleton]; omega, fun p hp => by
      rcases List.mem_append.mp hp with hp | hp
      · exact ha4 p hp
      · rw [List.mem_singleton.mp hp]
        exact ⟨Nat.zero_le _, by show many - 1 ≤ 8; omega⟩⟩
    have P16 := P15.same s6
    have P26 := P25.same s6
    have ha16 := s6 _ _ ha1
    have ha26 := DpAll.same s6 _ _ ha2
    generalize upd H5 D3 (.lst (za ++ [.ref t])) = H6 at s6 P36 P16 P26 ha16 ha26
    refine ⟨(by show 3 ≤ sizeLine; decide), fun rw1 nrw1 => ?_⟩
    have s7 := Same.new (o := .lst [.ref D1, .ref D2, .ref D3]) nrw1
    have hrw1 : (upd H6 rw1 (.lst [.ref D1, .ref D2, .ref D3])) rw1 = some (.lst [.ref D1, .ref D2, .ref D3]) := upd_same
    have P17 := P16.same s7
    have P27 := P26.same s7
    have P37 := P36.same s7
    have ha17 := s7 _ _ ha16
    have ha27 := DpAll.same s7 _ _ ha26
    generalize upd H6 rw1 (.lst [.ref D1, .ref D2, .ref D3]) = H7 at s7 hrw1 P17 P27 P37 ha17 ha27
    refine gnE ?_
    refine asgFL ?_
    refine ⟨_, rfl, _, rfl, _, rfl, _, _, rfl, rfl, (many : Int) - 1, rfl, by omega, by omega, fun D4 hD4 => ?_⟩
    rw [em]
    refine lc_dat (walk_range (lo := 0) (n := many - 1)) (K := K) (((List.range (many - 1)).map fun i => (i, many - 1)).map prD) hD4 (by rw [List.length_map, List.length_map, List.length_range]) (by omega) (prD_noL _) (fun H' s' => trivial) ?_ ?_ gName_mono
    · rintro i y H4 H5 e Rr hi s4 ⟨rfl, rfl⟩ hR
      obtain ⟨hi, rfl⟩ := range_at hi
      refine ⟨rfl, ?_⟩
      refine ⟨_, rfl, _, rfl, _, _, rfl, rfl, (by show 2 ≤ sizeLine; decide), fun t nt => ?_⟩
      exact hR _ _ (Same.new nt) (.tup (.inl (.inl upd_same)) (.cons (dp_int (show V.int (0 + (i : Int)) = V.int ((i : Nat) : Int) by congr 1; omega)) (.cons (dp_int (show V.int ((many : Int) - 1) = V.int ((many - 1 : Nat) : Int) by rw [em3])) .nil)))
    rintro H8 ys8 s8 hd8 hys8
    have y8 := DpAll.len hys8
    rw [List.length_map, List.length_map, List.length_range] at y8
    have ha18 := s8 _ _ ha17
    refine ⟨D1, D4, za, ys8, rfl, rfl, ha18, hd8, by rw [sizeLine_eq]; omega, fun D5 nD5 => ?_⟩
    have s9 := Same.new (o := .lst (za ++ ys8)) nD5
    have P59 : PrL K (upd H8 D5 (.lst (za ++ ys8))) D5 := ⟨_, pa ++ ((List.range (many - 1)).map fun i => (i, many - 1)), upd_same, by
      rw [List.map_append]
      exact DpAll.same s9 _ _ (dpa_appL (DpAll.same s8 _ _ ha27) hys8), by rw [List.length_append, List.length_map, List.length_range]; omega, fun p hp => by
      rcases List.mem_append.mp hp with hp | hp
      · exact ha4 p hp
      · exact pair_map _ (fun i => i) (fun _ => many - 1) (fun i hi => ⟨by omega, by omega⟩) p hp⟩
    have s89 := s8.trans s9
    have P19 := P17.same s89
    have P29 := P27.same s89
    have P39 := P37.same s89
    have hrw9 := s89 _ _ hrw1
    have s19 : Same H1 (upd H8 D5 (.lst (za ++ ys8))) := s2.trans (s3.trans (s4.trans (s5.trans (s6.trans (s7.trans s89)))))
    generalize upd H8 D5 (.lst (za ++ ys8)) = H9 at s9 s89 P59 P19 P29 P39 hrw9 s19
    refine ⟨(by show 1 ≤ sizeLine; decide), fun rw2 nrw2 => ?_⟩
    have s10 := Same.new (o := .lst [.ref D5]) nrw2
    have hrw2 : (upd H9 rw2 (.lst [.ref D5])) rw2 = some (.lst [.ref D5]) := upd_same
    have hrw10 := s10 _ _ hrw9
    have P110 := P19.same s10
    have P210 := P29.same s10
    have P310 := P39.same s10
    have P510 := P59.same s10
    have s110 := s19.trans s10
    generalize upd H9 rw2 (.lst [.ref D5]) = H10 at s10 hrw2 hrw10 P110 P210 P310 P510 s110
    refine ⟨rw1, rw2, _, _, rfl, rfl, hrw10, hrw2, (by show 3 + 1 ≤ sizeLine; decide), fun rw3 nrw3 => ?_⟩
    have s11 := Same.new (o := .lst ([.ref D1, .ref D2, .ref D3] ++ [.ref D5])) nrw3
    have hrw3 : (upd H10 rw3 (.lst ([.ref D1, .ref D2, .ref D3] ++ [.ref D5]))) rw3 = some (.lst [.ref D1, .ref D2, .ref D3, .ref D5]) := upd_same
    have P111 := P110.same s11
    have P211 := P210.same s11
    have P311 := P310.same s11
    have P511 := P510.same s11
    have s111 := s110.trans s11
    generalize upd H10 rw3 (.lst ([.ref D1, .ref D2, .ref D3] ++ [.ref D5])) = H11 at s11 hrw3 P111 P211 P311 P511 s111
    refine gnE ?_
    obtain ⟨Dw, hat, Pw⟩ : ∃ Dw, atI [V.ref D1, .ref D2, .ref D3, .ref D5] (way : Int) = some (.ref Dw) ∧ PrL K H11 Dw := by
      rcases (by omega : way = 0 ∨ way = 1 ∨ way = 2 ∨ way = 3) with rfl | rfl | rfl | rfl
      · exact ⟨D1, at_of (j := 0) rfl rfl, P111⟩
      · exact ⟨D2, at_of (j := 1) rfl rfl, P211⟩
      · exact ⟨D3, at_of (j := 2) rfl rfl, P311⟩
      · exact ⟨D5, at_of (j := 3) rfl rfl, P511⟩
    obtain ⟨yw, pw, hw1, hw2, hw3, hw4⟩ := Pw
    obtain ⟨ks, rfl, hk1, hk2⟩ := dpa_ks hw2
    have kl : ks.length = pw.length := by
      have := congrArg List.length hk2
      rw [List.length_map, List.length_map] at this
      exact this
    have hkp : ∀ p, p ∈ ks → ∃ a b : Nat, p.2 = [(a : Int), (b : Int)] ∧ a ≤ 8 ∧ b ≤ 8 := fun p hp => by
      have : p.2 ∈ ks.map (·.2) := List.mem_map.mpr ⟨p, hp, rfl⟩
      rw [hk2] at this
      obtain ⟨u, hu, e⟩ := List.mem_map.mp this
      exact ⟨u.1, u.2, e.symm, hw4 u hu⟩
    refine ⟨_, rfl, _, rfl, rw3, _, _, _, rfl, rfl, SqL.of hrw3, hat, ?_⟩
    refine ⟨Dw, ks, rfl, SqL.of hw1, hk1, by omega, fun a L na hL1 hL2 => ?_⟩
    have s12 := Same.new (o := SetTO P w a L) na
    have hset : (upd H11 a (SetTO P w a L)) a = some (SetTO P w a L) := upd_same
    have s112 := s111.trans s12
    have hk12 : ∀ p, p ∈ L → SqT K (upd H11 a (SetTO P w a L)) p.1 (p.2.map V.int) := fun p hp => Same.seqT s12 (hk1 p (hL1 p hp))
    refine ⟨a, L, 2, 100, rfl, hset, hk12, by decide, fun p hp => ?_, fun L' p hperm hnd hl64 _ np => ?_⟩
    · obtain ⟨u, v, e, hu, hv⟩ := hkp p (hL1 p hp)
      refine ⟨by rw [e]; rfl, fun m hm => ?_⟩
      rw [e] at hm
      rcases List.mem_cons.mp hm with rfl | hm
      · omega
      · rw [List.mem_singleton.mp hm]
        omega
    · have s13 := Same.new (o := .lst (L'.map fun q => V.ref q.1)) np
      have hp13 : (upd (upd H11 a (SetTO P w a L)) p (.lst (L'.map fun q => V.ref q.1))) p = some (.lst (L'.map fun q => V.ref q.1)) := upd_same
      refine ⟨p, _, rfl, .inl ⟨SqL.of hp13, fun t nt => ?_⟩⟩
      have s14 := s13.trans (Same.new (o := .tup (L'.map fun q => V.ref q.1)) nt)
      have s114 := s112.trans s14
      have key : ∀ (M : List (Addr × List Int)), (∀ q, q ∈ M → q ∈ L) → ∀ H', Same (upd H11 a (SetTO P w a L)) H' → ∃ ls, DpAll K H' (M.map fun q => V.ref q.1) ls ∧ (∀ d, d ∈ ls → PairN d) ∧ noLs ls = true ∧ ls.length = M.length := by
        intro M
        induction M with
        | nil => exact fun _ H' _ => ⟨[], .nil, (fun d h => nomatch h), by unfold noLs; rfl, rfl⟩
        | cons q M ih =>
          intro hM H' s'
          obtain ⟨ls, h1, h2, h3, h4⟩ := ih (fun x hx => hM x (List.mem_cons_of_mem _ hx)) H' s'
          have hq := hM q List.mem_cons_self
          obtain ⟨u, v, e, hu, hv⟩ := hkp q (hL1 q hq)
          have hsq := Same.seqT s' (hk12 q hq)
          rw [e] at hsq
          refine ⟨.tuple [.int (u : Int), .int (v : Int)] :: ls, .cons (.tup hsq (.cons (.int _) (.cons (.int _) .nil))) h1, fun d hd => ?_, by simp only [noLs, noL, h3, Bool.and_self], by rw [List.length_cons, List.length_cons, h4]⟩
          rcases List.mem_cons.mp hd with rfl | hd
          · exact ⟨u, v, rfl, by omega, by omega⟩
          · exact h2 d hd
      obtain ⟨ls, h1, h2, h3, h4⟩ := key L' (fun q hq => hperm.mem_iff.mp hq) _ s14
      exact q _ _ ls (R1.same s114) (k1.trans (Keep.of s114)) (.tup (.inl (.inl upd_same)) h1) h2 h3 (by omega)
end
end K19
end
section
namespace K19
open PySem L2 No RZ
/-! ### the law's own: keys, steps, scripts -/
abbrev s_law_some_key : Stmt := top 51
abbrev n_law_some_key : List Str := ["row"]
abbrev p_law_some_key : List Str := ["row"]
theorem sc_law_some_key : FnScope n_law_some_key p_law_some_key (defScope s_law_some_key) := ⟨rfl, rfl, rfl, by decide +kernel, rfl, by decide +kernel, by decide +kernel⟩
def spKyD (K : PySem.W.Frag) : Sp := fun vs H Q _ => ∃ (r sc : Addr) (ns : List Int), vs = [.ref r] ∧ RowI K H r sc ns ∧ ∀ (k : Str) (H' : Hp), GP .k (.str k) → RowI K H' r sc ns → Keep r H H' → Q (.str k) H'
theorem gk_a : GP .k (.str "a") := ⟨[0], congrArg PyData.str (by decide +kernel), by unfold Sgs; decide, by decide, by decide⟩
theorem gk_b : GP .k (.str "b") := ⟨[1], congrArg PyData.str (by decide +kernel), by unfold Sgs; decide, by decide, by decide⟩
theorem gk_ab : GP .k (.str "ab") := ⟨[0, 1], congrArg PyData.str (by decide +kernel), by unfold Sgs; decide, by decide, by decide⟩
theorem gk_1 : GP .k (.str "key 1") := ⟨[10, 4, 24, 62, 53], congrArg PyData.str (by decide +kernel), by unfold Sgs; decide, by decide, by decide⟩
theorem gk_Z : GP .k (.str "Z") := ⟨[51], congrArg PyData.str (by decide +kernel), by unfold Sgs; decide, by decide, by decide⟩
abbrev s_law_step : Stmt := top 56
abbrev n_law_step : List Str := ["row", "many", "words", "word", "one", "two"]
abbrev p_law_step : List Str := ["row", "many"]
theorem sc_law_step : FnScope n_law_step p_law_step (defScope s_law_step) := ⟨rfl, rfl, rfl, by decide +kernel, rfl, by decide +kernel, by decide +kernel⟩
def spStD (K : PySem.W.Frag) : Sp := fun vs H Q _ => ∃ (r sc : Addr) (ns : List Int) (many : Nat), vs = [.ref r, .int (many : Int)] ∧ RowI K H r sc ns ∧ 1 ≤ many ∧ many ≤ 8 ∧
  ∀ (v : V) (H' : Hp) (z : Str) (f : List Kd) (ds : List PyData), RowI K H' r sc ns → Keep r H H' → formOf z = some f → GPs f ds → Dp K H' v (.tuple (.str z :: ds)) → Q v H'
theorem ifFL {c : TT} {no u : TS} {D : Ends} {σ : L2.St} {H : Hp} (h : c σ H fun b H1 => if b = true then no { D with nx := u D } σ H1 else u D σ H1) : tSeq (tIfS c no tNext) u D σ H := h
def ws18 : List Str := ["write", "write", "show", "notes", "tick", "tick", "tick", "flush", "settle", "flight", "alike", "fall", "cut", "heal", "deliver", "lose", "double", "spoil"]
theorem ws_forms : ∀ z, z ∈ ws18 → (if inV (.str z) [V.str "flush", .str "flight", .str "alike"] = true then formOf z = some [] else if inV (.str z) [V.str "cut", .str "heal"] = true then formOf z = some [.c, .c] else if z = "spoil" then formOf z = some [.c, .c, .c] else
    if z = "write" then formOf z = some [.c, .k, .v] else if z = "show" then formOf z = some [.c, .k] else formOf z = some [.c]) := by decide +kernel
theorem tIn {K : PySem.W.Frag} {x : V} {l : Addr} {xs : List V} {H : Hp} {Q : VK} (hl : H l = some (.lst xs)) (hx : flatV x = true) (hxs : xs.all flatV = true) (q : Q (.bl (inV x xs)) H) : rIn K false x (.ref l) H Q := ⟨l, xs, rfl, .inl (SqL.of hl), hx, hxs, q⟩
section
variable {P : Program} {w : World} {K : PySem.W.Frag} {mg : Str → Option Value} {base : Heap}
theorem ok_kyD {f fP : Addr} {fd fdP : FuncData} (D : Dfn K mg "_law_some_key" s_law_some_key p_law_some_key f fd) (DP : Dfn K mg "_law_pick" s_law_pick p_law_pick fP fdP) (GP' : FnOk P w K mg base CX0 2 fP fdP p_law_pick (spPick K)) : FnOk P w K mg base CX0 3 f fd p_law_some_key (spKyD K) := by
  have nd := sc_law_some_key.nd
  refine D.F.ok sc_law_some_key (fun vs H Q E h => ?_) (fun cdv A outer s H vs Q E hr h => ?_)
  · obtain ⟨r, sc, ns, rfl, _⟩ := h
    rfl
  · obtain ⟨r, sc, ns, rfl, R, q⟩ := h
    refine ⟨_, pss_one (ps_ret (pe_call GP' hr (by rfl) DP.g DP.F.kp DP.b .nil pass0 (pa_cons (pv 0) (pa_cons (pe_lst (pa_cons pe_str (pa_cons pe_str (pa_cons pe_str (pa_cons pe_str (pa_cons pe_str pa_nil)))))) pa_nil)))), ?_⟩
    refine ⟨_, rfl, (by show 5 ≤ sizeLine; decide), fun p hp => ?_⟩
    have npr : p ≠ r := R.new hp
    refine ⟨r, sc, ns, p, _, rfl, R.same (Same.new hp), SqL.of upd_same, npr, by decide, by decide, fun u H2 hu R2 k2 => ?_⟩
    have kk := (Keep.new hp).trans k2
    rcases List.mem_cons.mp hu with rfl | hu
    · exact q _ H2 gk_a R2 kk
    rcases List.mem_cons.mp hu with rfl | hu
    · exact q _ H2 gk_b R2 kk
    rcases List.mem_cons.mp hu with rfl | hu
    · exact q _ H2 gk_ab R2 kk
    rcases List.mem_cons.mp hu with rfl | hu
    · exact q _ H2 gk_1 R2 kk
    · rw [List.mem_singleton.mp hu]
      exact q _ H2 gk_Z R2 kk
theorem ok_stD {f fT fP fK fV : Addr} {fd fdT fdP fdK fdV : FuncData} (D : Dfn K mg "_law_step" s_law_step p_law_step f fd) (DT : Dfn K mg "_law_taken" s_law_taken p_law_taken fT fdT) (GT : FnOk P w K mg base CX0 1 fT fdT p_law_taken (spTaken K))
    (DP : Dfn K mg "_law_pick" s_law_pick p_law_pick fP fdP) (GP' : FnOk P w K mg base CX0 2 fP fdP p_law_pick (spPick K)) (DK : Dfn K mg "_law_some_key" s_law_some_key p_law_some_key fK fdK) (GK : FnOk P w K mg base CX0 3 fK fdK p_law_some_key (spKyD K))
    (DV : Dfn K mg "_law_some_value" s_law_some_value p_law_some_value fV fdV) (GV : FnOk P w K mg base CX0 4 fV fdV p_law_some_value (spSV K)) : FnOk P w K mg base CX0 5 f fd p_law_step (spStD K) := by
  have nd := sc_law_step.nd
  refine D.F.ok sc_law_step (fun vs H Q E h => ?_) (fun cdv A outer s H vs Q E hr h => ?_)
  · obtain ⟨r, sc, ns, many, rfl, _⟩ := h
    rfl
  · obtain ⟨r, sc, ns, many, rfl, R, m1, m8, q⟩ := h
    have hr1 : Room 1 _ := hr.mono (by decide)
    have hr2 : Room 2 _ := hr.mono (by decide)
    have hr3 : Room 3 _ := hr.mono (by decide)
    refine ⟨_, pss_cons (ps_set (i := 2) nd rfl (.inl rfl) (pe_lst (pa_cons pe_str (pa_cons pe_str (pa_cons pe_str (pa_cons pe_str (pa_cons pe_str (pa_cons pe_str (pa_cons pe_str (pa_cons pe_str (pa_cons pe_str (pa_cons pe_str (pa_cons pe_str pa_nil)))))))))))))
      (pss_cons (ps_set (i := 2) nd rfl (.inl rfl) (pe_op op_cat (pv 2) (pe_lst (pa_cons pe_str (pa_cons pe_str (pa_cons pe_str pa_nil))))))
      (pss_cons (ps_set (i := 3) nd rfl (.inl rfl) (pe_call GP' hr2 (by rfl) DP.g DP.F.kp DP.b .nil pass0 (pa_cons (pv 0) (pa_cons (pe_op op_cat (pv 2) (pe_lst (pa_cons pe_str (pa_cons pe_str (pa_cons pe_str (pa_cons pe_str pa_nil)))))) pa_nil))))
      (pss_cons (ps_par (i := 4) (j := 5) (by rfl) nd rfl rfl (by decide) rfl rfl (pa_cons (pe_call GT hr1 (by rfl) DT.g DT.F.kp DT.b .nil pass0 (pa_cons (pv 0) (pa_cons (pv 1) pa_nil))) (pa_cons (pe_call GT hr1 (by rfl) DT.g DT.F.kp DT.b .nil pass0 (pa_cons (pv 0) (pa_cons (pv 1) pa_nil))) pa_nil)) (by rfl))
      (pss_cons (ps_if (pt_cmpR op_in_seq (pv 3) (pe_lst (pa_cons pe_str (pa_cons pe_str (pa_cons pe_str pa_nil)))) (by rfl)) (pss_one (ps_ret (pe_tup (pa_cons (pv 3) pa_nil)))) pss_nil)
      (pss_cons (ps_if (pt_cmpR op_in_seq (pv 3) (pe_lst (pa_cons pe_str (pa_cons pe_str pa_nil))) (by rfl)) (pss_one (ps_ret (pe_tup (pa_cons (pv 3) (pa_cons (pv 4) (pa_cons (pv 5) pa_nil)))))) pss_nil)
      (pss_cons (ps_if (pt_cmpR op_eq (pv 3) pe_str (nomark _)) (pss_one (ps_ret (pe_tup (pa_cons (pv 3) (pa_cons (pe_call GT hr1 (by rfl) DT.g DT.F.kp DT.b .nil pass0 (pa_cons (pv 0) (pa_cons pe_int pa_nil))) (pa_cons (pe_call GT hr1 (by rfl) DT.g DT.F.kp DT.b .nil pass0 (pa_cons (pv 0) (pa_cons pe_int pa_nil))) (pa_cons (pe_call GT hr1 (by rfl) DT.g DT.F.kp DT.b .nil pass0 (pa_cons (pv 0) (pa_cons pe_int pa_nil))) pa_nil))))))) pss_nil)
      (pss_cons (ps_if (pt_cmpR op_eq (pv 3) pe_str (nomark _)) (pss_one (ps_ret (pe_tup (pa_cons (pv 3) (pa_cons (pv 4) (pa_cons (pe_call GK hr3 (by rfl) DK.g DK.F.kp DK.b .nil pass0 (pa_cons (pv 0) pa_nil)) (pa_cons (pe_call GV hr (by rfl) DV.g DV.F.kp DV.b .nil pass0 (pa_cons (pv 0) pa_nil)) pa_nil))))))) pss_nil)
      (pss_one (ps_ret (pe_ifExp (pt_cmpR op_eq (pv 3) pe_str (nomark _)) (pe_tup (pa_cons (pv 3) (pa_cons (pv 4) (pa_cons (pe_call GK hr3 (by rfl) DK.g DK.F.kp DK.b .nil pass0 (pa_cons (pv 0) pa_nil)) pa_nil)))) (pe_tup (pa_cons (pv 3) (pa_cons (pv 4) pa_nil))))))))))))), ?_⟩
    refine ⟨(by show 11 ≤ sizeLine; decide), fun l1 nl1 => ?_⟩
    have s1 := Same.new (o := .lst [V.str "write", .str "write", .str "show", .str "notes", .str "tick", .str "tick", .str "tick", .str "flush", .str "settle", .str "flight", .str "alike"]) nl1
    have hl1 : (upd H l1 (.lst [V.str "write", .str "write", .str "show", .str "notes", .str "tick", .str "tick", .str "tick", .str "flush", .str "settle", .str "flight", .str "alike"])) l1 = some (.lst [V.str "write", .str "write", .str "show", .str "notes", .str "tick", .str "tick", .str "tick", .str "flush", .str "settle", .str "flight", .str "alike"]) := upd_same
    generalize upd H l1 (.lst [V.str "write", .str "write", .str "show", .str "notes", .str "tick", .str "tick", .str "tick", .str "flush", .str "settle", .str "flight", .str "alike"]) = H1 at s1 hl1
    refine setF ?_
    refine asgFL ?_
    refine ⟨_, rfl, (by show 3 ≤ sizeLine; decide), fun l2 nl2 => ?_⟩
    have s2 := s1.trans (Same.new (o := .lst [V.str "fall", .str "cut", .str "heal"]) nl2)
    have hl12 := (Same.new (o := .lst [V.str "fall", .str "cut", .str "heal"]) nl2) _ _ hl1
    have hl2 : (upd H1 l2 (.lst [V.str "fall", .str "cut", .str "heal"])) l2 = some (.lst [V.str "fall", .str "cut", .str "heal"]) := upd_same
    generalize upd H1 l2 (.lst [V.str "fall", .str "cut", .str "heal"]) = H2 at s2 hl12 hl2
    refine ⟨l1, l2, _, _, rfl, rfl, hl12, hl2, (by show 11 + 3 ≤ sizeLine; decide), fun l3 nl3 => ?_⟩
    have s3 := s2.trans (Same.new (o := .lst ([V.str "write", .str "write", .str "show", .str "notes", .str "tick", .str "tick", .str "tick", .str "flush", .str "settle", .str "flight", .str "alike"] ++ [V.str "fall", .str "cut", .str "heal"])) nl3)
    have hl3 : (upd H2 l3 (.lst ([V.str "write", .str "write", .str "show", .str "notes", .str "tick", .str "tick", .str "tick", .str "flush", .str "settle", .str "flight", .str "alike"] ++ [V.str "fall", .str "cut", .str "heal"]))) l3 = some (.lst ((ws18.take 14).map V.str)) := upd_same
    generalize upd H2 l3 (.lst ([V.str "write", .str "write", .str "show", .str "notes", .str "tick", .str "tick", .str "tick", .str "flush", .str "settle", .str "flight", .str "alike"] ++ [V.str "fall", .str "cut", .str "heal"])) = H3 at s3 hl3
    refine gnE ?_
    refine asgFL ?_
    refine ⟨_, rfl, _, rfl, (by show 4 ≤ sizeLine; decide), fun l4 nl4 => ?_⟩
    have s4 := s3.trans (Same.new (o := .lst [V.str "deliver", .str "lose", .str "double", .str "spoil"]) nl4)
    have hl34 := (Same.new (o := .lst [V.str "deliver", .str "lose", .str "double", .str "spoil"]) nl4) _ _ hl3
    have hl4 : (upd H3 l4 (.lst [V.str "deliver", .str "lose", .str "double", .str "spoil"])) l4 = some (.lst [V.str "deliver", .str "lose", .str "double", .str "spoil"]) := upd_same
    generalize upd H3 l4 (.lst [V.str "deliver", .str "lose", .str "double", .str "spoil"]) = H4 at s4 hl34 hl4
    refine ⟨l3, l4, _, _, rfl, rfl, hl34, hl4, (by show 14 + 4 ≤ sizeLine; decide), fun l5 nl5 => ?_⟩
    have s5 := s4.trans (Same.new (o := .lst ((ws18.take 14).map V.str ++ [V.str "deliver", .str "lose", .str "double", .str "spoil"])) nl5)
    have hl5 : (upd H4 l5 (.lst ((ws18.take 14).map V.str ++ [V.str "deliver", .str "lose", .str "double", .str "spoil"]))) l5 = some (.lst (ws18.map V.str)) := upd_same
    generalize upd H4 l5 (.lst ((ws18.take 14).map V.str ++ [V.str "deliver", .str "lose", .str "double", .str "spoil"])) = H5 at s5 hl5
    have R5 := R.same s5
    have n5 : l5 ≠ r := fun e => by
      obtain ⟨⟨n, x, y, h2, _⟩, _⟩ := R5
      rw [e, h2] at hl5
      have := HO.lst.inj (Option.some.inj hl5)
      exact absurd (show (4 : Nat) = 18 from congrArg List.length this) (by decide)
    refine ⟨r, sc, ns, l5, _, rfl, R5, SqL.of hl5, n5, by decide, by decide, fun u H6 hu R6 k6 => ?_⟩
    obtain ⟨z, hz, rfl⟩ := List.mem_map.mp hu
    have kk6 := (Keep.of s5).trans k6
    have hform := ws_forms z hz
    refine gnE ?_
    refine ⟨_, rfl, _, rfl, r, sc, ns, _, rfl, R6, by omega, by omega, fun v1 H7 p0 p1 R7 k7 => ?_⟩
    obtain ⟨a1, rfl⟩ := Int.eq_ofNat_of_zero_le p0
    refine ⟨_, rfl, _, rfl, r, sc, ns, _, rfl, R7, by omega, by omega, fun v2 H8 p2 p3 R8 k8 => ?_⟩
    obtain ⟨a2, rfl⟩ := Int.eq_ofNat_of_zero_le p2
    have kk8 := (kk6.trans k7).trans k8
    have g1 : GP .c (.int (a1 : Int)) := ⟨a1, rfl, by omega⟩
    have g2 : GP .c (.int (a2 : Int)) := ⟨a2, rfl, by omega⟩
    refine ⟨_, _, rfl, ?_⟩
    refine nxE ?_
    refine ifFL ?_
    refine ⟨_, rfl, (by show 3 ≤ sizeLine; decide), fun l6 nl6 => ?_⟩
    have s9 := Same.new (o := .lst [V.str "flush", .str "flight", .str "alike"]) nl6
    refine tIn upd_same rfl rfl ?_
    have kk9 := kk8.trans (Keep.of s9)
    have R9 := R8.same s9
    generalize upd H8 l6 (.lst [V.str "flush", .str "flight", .str "alike"]) = H9 at s9 kk9 R9
    refine ⟨_, rfl, ?_⟩
    cases b1 : inV (.str z) [V.str "flush", .str "flight", .str "alike"] with
    | true =>
      rw [b1, if_pos rfl] at hform
      refine iteT ?_
      refine ⟨_, rfl, (by show 1 ≤ sizeLine; decide), fun t nt => ?_⟩
      exact q _ _ z [] [] (R9.same (Same.new nt)) (kk9.trans (Keep.of (Same.new nt))) hform .nil (.tup (.inl (.inl upd_same)) (.cons (.str _) .nil))
    | false =>
      rw [b1, if_neg Bool.false_ne_true] at hform
      refine iteF ?_
      refine ifFL ?_
      refine ⟨_, rfl, (by show 2 ≤ sizeLine; decide), fun l7 nl7 => ?_⟩
      have s10 := Same.new (o := .lst [V.str "cut", .str "heal"]) nl7
      refine tIn upd_same rfl rfl ?_
      have kk10 := kk9.trans (Keep.of s10)
      have R10 := R9.same s10
      generalize upd H9 l7 (.lst [V.str "cut", .str "heal"]) = H10 at s10 kk10 R10
      refine ⟨_, rfl, ?_⟩
      cases b2 : inV (.str z) [V.str "cut", .str "heal"] with
      | true =>
        rw [b2, if_pos rfl] at hform
        refine iteT ?_
        refine ⟨_, rfl, _, rfl, _, rfl, (by show 3 ≤ sizeLine; decide), fun t nt => ?_⟩
        exact q _ _ z _ _ (R10.same (Same.new nt)) (kk10.trans (Keep.of (Same.new nt))) hform (.cons g1 (.cons g2 .nil)) (.tup (.inl (.inl upd_same)) (.cons (.str _) (.cons (.int _) (.cons (.int _) .nil))))
      | false =>
        rw [b2, if_neg Bool.false_ne_true] at hform
        refine iteF ?_
        refine ⟨_, rfl, rfl, _, rfl, ?_⟩
        by_cases c3 : z = "spoil"
        · rw [if_pos c3] at hform
          rw [show decide (V.str z = V.str "spoil") = true from decide_eq_true (by rw [c3])]
          refine iteT ?_
          refine ⟨_, rfl, _, rfl, r, sc, ns, _, rfl, R10, by decide, by decide, fun w1 H11 e0 e1 R11 k11 => ?_⟩
          obtain ⟨b1', rfl⟩ := Int.eq_ofNat_of_zero_le e0
          refine ⟨_, rfl, r, sc, ns, _, rfl, R11, by decide, by decide, fun w2 H12 e2 e3 R12 k12 => ?_⟩
          obtain ⟨b2', rfl⟩ := Int.eq_ofNat_of_zero_le e2
          refine ⟨_, rfl, r, sc, ns, _, rfl, R12, by decide, by decide, fun w3 H13 e4 e5 R13 k13 => ?_⟩
          obtain ⟨b3', rfl⟩ := Int.eq_ofNat_of_zero_le e4
          refine ⟨(by show 4 ≤ sizeLine; decide), fun t nt => ?_⟩
          exact q _ _ z _ _ (R13.same (Same.new nt)) ((((kk10.trans k11).trans k12).trans k13).trans (Keep.of (Same.new nt))) hform (.cons ⟨b1', rfl, by omega⟩ (.cons ⟨b2', rfl, by omega⟩ (.cons ⟨b3', rfl, by omega⟩ .nil)))
            (.tup (.inl (.inl upd_same)) (.cons (.str _) (.cons (.int _) (.cons (.int _) (.cons (.int _) .nil)))))
        · rw [if_neg c3] at hform
          rw [show decide (V.str z = V.str "spoil") = false from decide_eq_false fun e => c3 (V.str.inj e)]
          refine iteF ?_
          refine ⟨_, rfl, rfl, _, rfl, ?_⟩
          by_cases c4 : z = "write"
          · rw [if_pos c4] at hform
            rw [show decide (V.str z = V.str "write") = true from decide_eq_true (by rw [c4])]
            refine iteT ?_
            refine ⟨_, rfl, _, rfl, _, rfl, r, sc, ns, rfl, R10, fun k H11 hk R11 k11 => ?_⟩
            refine ⟨_, rfl, r, sc, ns, rfl, R11, fun u H12 hu' R12 k12 => ?_⟩
            refine ⟨(by show 4 ≤ sizeLine; decide), fun t nt => ?_⟩
            have eu : Dp K (upd H12 t (.tup [.str z, .int (a1 : Int), .str k, vV u])) (vV u) (uD u) := by
              cases u with
              | non => exact .non
              | int i => exact .int _
              | txt l => exact .str _
            exact q _ _ z _ _ (R12.same (Same.new nt)) (((kk10.trans k11).trans k12).trans (Keep.of (Same.new nt))) hform (.cons g1 (.cons hk (.cons (show GP .v (uD u) from ⟨u, rfl, hu'⟩) .nil)))
              (.tup (.inl (.inl upd_same)) (.cons (.str _) (.cons (.int _) (.cons (.str _) (.cons eu .nil)))))
          · rw [if_neg c4] at hform
            rw [show decide (V.str z = V.str "write") = false from decide_eq_false fun e => c4 (V.str.inj e)]
            refine iteF ?_
            refine ⟨_, rfl, rfl, _, rfl, ?_⟩
            by_cases c5 : z = "show"
            · rw [if_pos c5] at hform
              rw [show decide (V.str z = V.str "show") = true from decide_eq_true (by rw [c5])]
              refine iteT ?_
              refine ⟨_, rfl, _, rfl, _, rfl, r, sc, ns, rfl, R10, fun k H11 hk R11 k11 => ?_⟩
              refine ⟨(by show 3 ≤ sizeLine; decide), fun t nt => ?_⟩
              exact q _ _ z _ _ (R11.same (Same.new nt)) ((kk10.trans k11).trans (Keep.of (Same.new nt))) hform (.cons g1 (.cons hk .nil)) (.tup (.inl (.inl upd_same)) (.cons (.str _) (.cons (.int _) (.cons (.str _) .nil))))
            · rw [if_neg c5] at hform
              rw [show decide (V.str z = V.str "show") = false from decide_eq_false fun e => c5 (V.str.inj e)]
              refine iteF ?_
              refine ⟨_, rfl, _, rfl, (by show 2 ≤ sizeLine; decide), fun t nt => ?_⟩
              exact q _ _ z _ _ (R10.same (Same.new nt)) (kk10.trans (Keep.of (Same.new nt))) hform (.cons g1 .nil) (.tup (.inl (.inl upd_same)) (.cons (.str _) (.cons (.int _) .nil)))
end
end K19
end
section
namespace K19
open PySem L2 No RZ
/-! ### the law's own: scripts, lines -/
abbrev s_law_script : Stmt := top 57
abbrev n_law_script : List Str := ["row", "many", "steps", "k"]
abbrev p_law_script : List Str := ["row"]
theorem sc_law_script : FnScope n_law_script p_law_script (defScope s_law_script) := ⟨rfl, rfl, rfl, by decide +kernel, rfl, by decide +kernel, by decide +kernel⟩
/-- a good script: a world, then other steps -/
structure GScr (ds : List PyData) : Prop where
  hd : ∃ n ls r, ds = .tuple [.str "world", .int ((n : Nat) : Int), .tuple ls] :: r ∧ ∀ d, d ∈ r → isWd d = false
  gs : ∀ d, d ∈ ds → GSt d
  sm : ∀ d, d ∈ ds → Sm d
  nl : noLs ds = true
  ln : ds.length ≤ 21
def spScr (K : PySem.W.Frag) : Sp := fun vs H Q _ => ∃ (r sc : Addr) (ns : List Int), vs = [.ref r] ∧ RowI K H r sc ns ∧ ∀ (v : V) (H' : Hp) (ds : List PyData), RowI K H' r sc ns → Keep r H H' → GScr ds → Dp K H' v (.tuple ds) → Q v H'
theorem gp_small : ∀ {k : Kd} {d : PyData}, GP k d → (partW k d).length ≤ 202
  | .c, _, ⟨n, rfl, h⟩ => by
    show (intL (n : Int)).length ≤ 202
    rw [intL_nat]
    have := len_numL (n := n) (by omega)
    omega
  | .k, _, ⟨l, rfl, h1, h2, h3⟩ => by
    show (txtW (cl (tx l))).length ≤ 202
    unfold txtW
    rw [cl_tx]
    simp only [List.length_cons, List.length_append, List.length_map, List.length_nil]
    omega
  | .v, _, ⟨.non, rfl, h⟩ => by decide
  | .v, _, ⟨.int i, rfl, h⟩ => by
    show (35 :: intL i).length ≤ 202
    have := intL_len h.1 h.2
    simp only [List.length_cons]
    omega
  | .v, _, ⟨.txt l, rfl, h⟩ => by
    show (txtW (cl (tx l))).length ≤ 202
    unfold txtW
    rw [cl_tx]
    simp only [List.length_cons, List.length_append, List.length_map, List.length_nil]
    have := h.2
    omega
theorem gps_small {f : List Kd} {r : List PyData} (h : GPs f r) : ∀ l, l ∈ List.zipWith partW f r → l.length ≤ 202 := by
  induction h with
  | nil => intro l hl; cases hl
  | cons h t ih =>
    intro l hl
    rw [List.zipWith_cons_cons] at hl
    rcases List.mem_cons.mp hl with rfl | hl
    · exact gp_small h
    · exact ih l hl
theorem forms_len : ∀ p, p ∈ formsL → p.2.length ≤ 3 := by decide +kernel
theorem wordsD_step {z : Str} {f : List Kd} {r : List PyData} (hf : formOf z = some f) : wordsD (.tuple (.str z :: r)) = cl z :: List.zipWith partW f r := by
  have hz := (forms_wd _ (formOf_mem hf)).1
  show (if z = "world" then _ else _) = _
  rw [if_neg hz, hf]
  rfl
theorem sm_step {z : Str} {f : List Kd} {r : List PyData} (hf : formOf z = some f) (h : GPs f r) : Sm (.tuple (.str z :: r)) := by
  have hz := (forms_wd _ (formOf_mem hf)).2.2.2.2.2
  have hl : f.length ≤ 3 := forms_len _ (formOf_mem hf)
  have gl := gps_len h
  unfold Sm
  rw [wordsD_step hf]
  have h2 := wsum_le (n := 202) (gps_small h)
  have h3 : (List.zipWith partW f r).length ≤ 3 := by rw [List.length_zipWith]; omega
  have h4 : wsum (cl z :: List.zipWith partW f r) = (cl z).length + wsum (List.zipWith partW f r) := by unfold wsum; rw [List.map_cons, List.sum_cons]
  rw [h4, List.length_cons]
  have h5 : (List.zipWith partW f r).length * 202 ≤ 3 * 202 := Nat.mul_le_mul_right _ h3
  have hz : (cl z).length ≤ 10 := hz
  omega
theorem pair_len {d : PyData} (h : PairN d) : (pairW d).length ≤ 41 := by
  obtain ⟨a, b, rfl, ha, hb⟩ := h
  show (intL (a : Int) ++ 45 :: intL (b : Int)).length ≤ 41
  rw [intL_nat, intL_nat, List.length_append, List.length_cons]
  have := len_numL (n := a) (by omega)
  have := len_numL (n := b) (by omega)
  omega
theorem sm_world {n : Nat} {ls : List PyData} (h : n ≤ 1048576) (hl : ∀ d, d ∈ ls → PairN d) (h64 : ls.length ≤ 64) : Sm (.tuple [.str "world", .int (n : Int), .tuple ls]) := by
  unfold Sm
  rw [wordsD_w]
  have h2 := wsum_le (ws := ls.map pairW) (n := 41) fun l hl' => by
    obtain ⟨d, hd, rfl⟩ := List.mem_map.mp hl'
    exact pair_len (hl d hd)
  rw [List.length_map] at h2
  have h3 : (intL (intD (.int (n : Int)))).length ≤ 20 := by
    show (intL (n : Int)).length ≤ 20
    rw [intL_nat]
    exact len_numL (by omega)
  have h5 : ls.length * 41 ≤ 64 * 41 := Nat.mul_le_mul_right _ h64
  have h4 : wsum (cl "world" :: intL (intD (.int (n : Int))) :: ls.map pairW) = 5 + ((intL (intD (.int (n : Int)))).length + wsum (ls.map pairW)) := by
    unfold wsum
    rw [List.map_cons, List.sum_cons, List.map_cons, List.sum_cons]
    rfl
  rw [h4]
  simp only [List.length_cons, List.length_map]
  omega
theorem gps_noL {f : List Kd} {r : List PyData} (h : GPs f r) : noLs r = true := by
  induction h with
  | nil => unfold noLs; rfl
  | @cons k d f r h t ih =>
    unfold noLs
    rw [ih, Bool.and_true]
    cases k with
    | c => obtain ⟨n, rfl, _⟩ := h; unfold noL; rfl
    | k => obtain ⟨l, rfl, _⟩ := h; unfold noL; rfl
    | v => obtain ⟨u, rfl, _⟩ := h; cases u <;> (unfold uD noL; rfl)
abbrev s_law_value_word : Stmt := top 58
abbrev n_law_value_word : List Str := ["value"]
abbrev p_law_value_word : List Str := ["value"]
theorem sc_law_value_word : FnScope n_law_value_word p_law_value_word (defScope s_law_value_word) := ⟨rfl, rfl, rfl, by decide +kernel, rfl, by decide +kernel, by decide +kernel⟩
abbrev s_law_line : Stmt := top 59
abbrev n_law_line : List Str := ["step", "words", "one", "two"]
abbrev p_law_line : List Str := ["step"]
theorem sc_law_line : FnScope n_law_line p_law_line (defScope s_law_line) := ⟨rfl, rfl, rfl, by decide +kernel, rfl, by decide +kernel, by decide +kernel⟩
section
variable {P : Program} {w : World} {K : PySem.W.Frag} {mg : Str → Option Value} {base : Heap}
theorem ok_scr {f fT fS fL : Addr} {fd fdT fdS fdL : FuncData} (D : Dfn K mg "_law_script" s_law_script p_law_script f fd) (B : Bi mg) (DT : Dfn K mg "_law_taken" s_law_taken p_law_taken fT fdT) (GT : FnOk P w K mg base CX0 1 fT fdT p_law_taken (spTaken K))
    (DS : Dfn K mg "_law_step" s_law_step p_law_step fS fdS) (GS : FnOk P w K mg base CX0 5 fS fdS p_law_step (spStD K)) (DL : Dfn K mg "_law_links" s_law_links p_law_links fL fdL) (GL : FnOk P w K mg base CX0 2 fL fdL p_law_links (spLks K)) : FnOk P w K mg base CX0 6 f fd p_law_script (spScr K) := by
  have nd := sc_law_script.nd
  refine D.F.ok sc_law_script (fun vs H Q E h => ?_) (fun cdv A outer s H vs Q E hr h => ?_)
  · obtain ⟨r, sc, ns, rfl, _⟩ := h
    rfl
  · obtain ⟨r, sc, ns, rfl, R, q⟩ := h
    have hr1 : Room 1 _ := hr.mono (by decide)
    have hr2 : Room 2 _ := hr.mono (by decide)
    refine ⟨_, pss_cons (ps_set (i := 1) nd rfl (.inr rfl) (pe_op op_add pe_int (pe_call GT hr1 (by rfl) DT.g DT.F.kp DT.b .nil pass0 (pa_cons (pv 0) (pa_cons pe_int pa_nil)))))
      (pss_cons (ps_set (i := 2) nd rfl (.inl rfl) (pe_lst (pa_cons (pe_tup (pa_cons pe_str (pa_cons (pv 1) (pa_cons (pe_call GL hr2 (by rfl) DL.g DL.F.kp DL.b .nil pass0 (pa_cons (pv 0) (pa_cons (pv 1) pa_nil))) pa_nil)))) pa_nil)))
      (pss_one (ps_ret (pe_callTy call_tuple_of (by rfl) B.tuple (by decide +kernel) (pa_cons (pe_op op_cat (pv 2) (pe_lc (own := [("k", 3)]) (g := gName 3) (tt := tYes) (te := tCall (spStD K) [] E0 (tCons (tVar 0) (tCons (tVar 1) tNil))) rfl nd (pi_range1 (by rfl) B.range (pa_cons (pe_call GT hr1 (by rfl) DT.g DT.F.kp DT.b .nil pass0 (pa_cons (pv 0) (pa_cons pe_int pa_nil))) pa_nil)) (blkOk_by (N := n_law_script) (sc := defScope s_law_script) (by decide +kernel)) (fun _ _ _ _ _ => pg_name (i := 3) nd rfl (.inl rfl)) (fun _ _ _ _ _ => pts_nil) (fun _ _ _ _ _ => by exact (pe_call GS hr (by rfl) DS.g DS.F.kp DS.b .nil pass0 (pa_cons (pv 0) (pa_cons (pv 1) pa_nil)))))) pa_nil))))), ?_⟩
    refine ⟨_, rfl, r, sc, ns, _, rfl, R, by decide, by decide, fun v H1 p0 p1 R1 k1 => ?_⟩
    obtain ⟨m, rfl⟩ := Int.eq_ofNat_of_zero_le p0
    refine ⟨_, _, rfl, rfl, ?_⟩
    have em : (2 : Int) + (m : Int) = ((m + 2 : Nat) : Int) := by omega
    refine setF ?_
    refine asgFL ?_
    rw [show ((fun i j => V.int (i + j)) (2 : Int) (m : Int)) = V.int ((m + 2 : Nat) : Int) from congrArg V.int em]
    refine ⟨_, rfl, _, rfl, _, rfl, r, sc, ns, m + 2, rfl, R1, by omega, by omega, fun vl H2 ls R2 k2 hls hpl hnl hl64 => ?_⟩
    refine ⟨(by show 3 ≤ sizeLine; decide), fun t nt => ?_⟩
    have s3 := Same.new (o := .tup [.str "world", .int ((m + 2 : Nat) : Int), vl]) nt
    have ht : Dp K (upd H2 t (.tup [.str "world", .int ((m + 2 : Nat) : Int), vl])) (.ref t) (.tuple [.str "world", .int ((m + 2 : Nat) : Int), .tuple ls]) := .tup (.inl (.inl upd_same)) (.cons (.str _) (.cons (.int _) (.cons (Dp.same s3 _ _ hls) .nil)))
    have R3 := R2.same s3
    have k3 := (k1.trans k2).trans (Keep.of s3)
    generalize upd H2 t (.tup [.str "world", .int ((m + 2 : Nat) : Int), vl]) = H3 at s3 ht R3 k3
    have nlw : noL (.tuple [.str "world", .int ((m + 2 : Nat) : Int), .tuple ls]) = true := by simp only [noL, noLs, hnl, Bool.and_self]
    refine ⟨(by show 1 ≤ sizeLine; decide), fun l1 nl1 => ?_⟩
    have s4 := Same.new (o := .lst [.ref t]) nl1
    have ht4 := Dp.same s4 _ _ ht
    have hl1 : (upd H3 l1 (.lst [.ref t])) l1 = some (.lst [.ref t]) := upd_same
    have R4 := R3.same s4
    have l1r : l1 ≠ r := R3.new nl1
    have k4 := k3.trans (Keep.of s4)
    generalize upd H3 l1 (.lst [.ref t]) = H4 at s4 ht4 hl1 R4 k4
    refine gnE ?_
    refine ⟨_, rfl, _, rfl, r, sc, ns, _, rfl, R4, by decide, by decide, fun v2 H5 p2 p3 R5 k5 => ?_⟩
    obtain ⟨cnt, rfl⟩ := Int.eq_ofNat_of_zero_le p2
    refine ⟨(cnt : Int), rfl, by omega, by omega, fun Dl hD => ?_⟩
    rw [show ((cnt : Int)).toNat = cnt by omega]
    have nDr : Dl ≠ r := R5.new hD
    have ht5 := dp_tkl (TKl.row R4 k5) _ _ nlw ht4
    have hl15 := k5 _ _ l1r hl1
    have neD : l1 ≠ Dl := fun e => by rw [e, hD] at hl15; cases hl15
    refine lc_range (lo := 0) (n := cnt) (fun i H6 => ∃ (ys : List V) (ds : List PyData), H6 Dl = some (.lst ys) ∧ DpAll K H6 ys ds ∧ ds.length = i ∧ (∀ d, d ∈ ds → GSt d ∧ Sm d ∧ isWd d = false ∧ noL d = true) ∧ RowI K H6 r sc ns ∧ Keep r H5 H6) ?_ ?_ ?_
    · exact ⟨[], [], upd_same, .nil, rfl, (fun d h => nomatch h), R5.same (Same.new hD), Keep.new hD⟩
    · rintro i H6 hi ⟨ys, ds, hd6, hys, hln, hds, R6, k6⟩
      refine ⟨rfl, ?_⟩
      refine yes ?_
      refine ⟨_, rfl, _, rfl, r, sc, ns, m + 2, rfl, R6, by omega, by omega, fun v H7 z fm dd R7 k7 hf hg hv => ?_⟩
      have hd7 := k7 _ _ nDr hd6
      have tk7 := TKl.row R6 k7
      have nls : noLs ds = true := noLs_mem.mpr fun d hd => (hds d hd).2.2.2
      have nld : noL (.tuple (.str z :: dd)) = true := by simp only [noL, noLs, gps_noL hg, Bool.and_self]
      have yl := DpAll.len hys
      have kk7 := k6.trans k7
      have kkD : Keep r H5 (upd H7 Dl (.lst (ys ++ [v]))) := fun b o n e => by
        rw [upd_ne (ne_of_none e hD)]
        exact kk7 b o n e
      refine ⟨ys, hd7, by rw [sizeLine_eq]; omega, ys ++ [v], ds ++ [.tuple (.str z :: dd)], upd_same, ?_, by rw [List.length_append, hln]; rfl, fun d hd => ?_, R7.ups R5 nDr kkD, kkD⟩
      · exact dps_snoc (dp_up hd7 _ _ nld hv) (dps_up hd7 _ _ nls (dps_tkl tk7 _ _ nls hys))
      · rcases List.mem_append.mp hd with hd | hd
        · exact hds d hd
        · rw [List.mem_singleton.mp hd]
          exact ⟨.step hf hg, sm_step hf hg, isWd_step hf, nld⟩
    · rintro H6 ⟨ys, ds, hd6, hys, hln, hds, R6, k6⟩
      have yl := DpAll.len hys
      have hl16 := k6 _ _ l1r hl15
      have ht6 := dp_tkl (TKl.row R5 k6) _ _ nlw ht5
      refine ⟨l1, Dl, _, _, rfl, rfl, hl16, hd6, by rw [sizeLine_eq]; simp only [List.length_cons, List.length_nil]; omega, fun p np => ?_⟩
      have s7 := Same.new (o := .lst ([.ref t] ++ ys)) np
      refine ⟨p, _, rfl, .inl ⟨SqL.of upd_same, fun t2 nt2 => ?_⟩⟩
      have s8 := s7.trans (Same.new (o := .tup ([.ref t] ++ ys)) nt2)
      refine q _ _ (.tuple [.str "world", .int ((m + 2 : Nat) : Int), .tuple ls] :: ds) (R6.same s8) (((k4.trans k5).trans k6).trans (Keep.of s8)) ⟨⟨m + 2, ls, ds, rfl, fun d hd => (hds d hd).2.2.1⟩, fun d hd => ?_, fun d hd => ?_, ?_, by rw [List.length_cons, hln]; omega⟩ (.tup (.inl (.inl upd_same)) (.cons (Dp.same s8 _ _ ht6) (DpAll.same s8 _ _ hys)))
      · rcases List.mem_cons.mp hd with rfl | hd
        · exact .world (by omega) hpl
        · exact (hds d hd).1
      · rcases List.mem_cons.mp hd with rfl | hd
        · exact sm_world (by omega) hpl hl64
        · exact (hds d hd).2.1
      · refine noLs_mem.mpr fun d hd => ?_
        rcases List.mem_cons.mp hd with rfl | hd
        · exact nlw
        · exact (hds d hd).2.2.2
end
end K19
end
section
namespace K19
open PySem L2 No RZ
/-! ### the law's own: the word of a value, the line of a step -/
def spLVW (K : PySem.W.Frag) : Sp := fun vs H Q _ => ∃ (x : V) (d : PyData), vs = [x] ∧ Dp K H x d ∧ Vl d ∧ Q (.str (st (valWd d))) H
def spLLn (K : PySem.W.Frag) : Sp := fun vs H Q _ => ∃ (x : V) (d : PyData), vs = [x] ∧ Dp K H x d ∧ GSt d ∧ Sm d ∧ ∀ H', Same H H' → Q (.str (st (lineD d))) H'
def rStrJ : List V → Hp → VK → Prop := fun xs H Q => ∃ i : Int, xs = [.int i] ∧ i.natAbs.log2 < 1920 ∧ Q (.str (Str.ofString (toString i))) H
def rAdS : R2 := fun x y H Q => ∃ i j, x = .str i ∧ y = .str j ∧ i.length + j.length ≤ sizeLine ∧ Q (.str (i ++ j)) H
def tPr2 : TE := tOp rAdS (tOp rAdS (tCB rStrJ (tCons (tVar 2) tNil)) (tC (.str "-"))) (tCB rStrJ (tCons (tVar 3) tNil))
theorem slG {K : PySem.W.Frag} {H : Hp} {a : Addr} {xs : List V} {lo hi : Option Int} {Q : VK} (h : SqT K H a xs) (q : ∀ (p : Addr) (H' : Hp), Same H H' → SqT K H' p (cutV xs lo hi) → Q (.ref p) H') : rSlA K (.ref a) lo hi H Q := by
  refine ⟨a, xs, rfl, h, fun ⟨e1, e2⟩ => q a H (fun _ _ h => h) ?_, fun _ p hp => q p _ (Same.new hp) (.inl (.inl upd_same))⟩
  have : cutV xs lo hi = xs := by
    unfold cutV
    rw [e1, e2, List.drop_zero, Nat.sub_zero, List.take_length]
  rw [this]
  exact h
theorem nxtL {u : TS} {D D' : Ends} {σ : L2.St} {H : Hp} (h : u D σ H) : tNext { nx := u D, rt := D'.rt, bk := D'.bk, ct := D'.ct : Ends } σ H := h
theorem eqV_str (a b : Str) : eqV (.str a) (.str b) = decide (b = a) := by
  show (a == b) = decide (b = a)
  rw [Bool.eq_iff_iff, beq_iff_eq, decide_eq_true_eq]
  exact eq_comm
theorem in2 (z : Str) : inV (.str z) [V.str "write", .str "show"] = (decide (z = "write") || decide (z = "show")) := by
  show (eqV (.str "write") (.str z) || (eqV (.str "show") (.str z) || false)) = _
  rw [Bool.or_false, eqV_str, eqV_str]
theorem q39l : ("'" : Str).length = 1 := by decide +kernel
theorem quote (x : Str) : ("'" : Str) ++ x ++ ("'" : Str) = st (txtW (cl x)) := by
  rw [show x = st (cl x) from (st_cl x).symm, show ("'" : Str) = st [39] by decide +kernel, st_app, st_app, cl_st]
  rfl
theorem forms_kind : ∀ p, p ∈ formsL → (p.1 = "write" ∧ p.2 = [.c, .k, .v]) ∨ (p.1 = "show" ∧ p.2 = [.c, .k]) ∨ (p.1 ≠ "write" ∧ p.1 ≠ "show" ∧ ∀ k, k ∈ p.2 → k = .c) := by decide +kernel
section
variable {P : Program} {w : World} {K : PySem.W.Frag} {mg : Str → Option Value} {base : Heap}
theorem ok_lvw {f : Addr} {fd : FuncData} (D : Dfn K mg "_law_value_word" s_law_value_word p_law_value_word f fd) (B : Bi mg) : FnOk P w K mg base CX0 1 f fd p_law_value_word (spLVW K) := by
  have nd := sc_law_value_word.nd
  refine D.F.ok sc_law_value_word (fun vs H Q E h => ?_) (fun cdv A outer s H vs Q E hr h => ?_)
  · obtain ⟨x, d, rfl, _⟩ := h
    rfl
  · obtain ⟨x, d, rfl, hx, hv, q⟩ := h
    refine ⟨_, pss_cons (ps_if (pt_cmpR op_isN (pv 0) pe_non (nomark _)) (pss_one (ps_ret pe_str)) pss_nil)
      (pss_one (ps_ret (pe_ifExp (pt_val (pe_callB call_isi (by rfl) B.isinstance (by decide +kernel) (pa_cons (pv 0) (pa_cons (pe_bltn (v := .ty "str") (by rfl) B.str (by decide +kernel) rfl) pa_nil)))) (pe_op op_add_str (pe_op op_add_str pe_str (pv 0)) pe_str) (pe_op op_add_str pe_str (pe_callTy call_str_int (by rfl) B.str (by decide +kernel) (pa_cons (pv 0) pa_nil)))))), ?_⟩
    cases hx with
    | non =>
      refine ⟨_, rfl, rfl, _, rfl, ?_⟩
      refine iteT ?_
      have q : Q (.str (st noneW)) H := q
      rw [← nonW_eq] at q
      exact q
    | int i =>
      refine ⟨_, rfl, rfl, _, rfl, ?_⟩
      refine iteF ?_
      have hv : -1099511627776 ≤ i ∧ i ≤ 1099511627776 := hv
      have nod : ∀ kv, PyData.int i ≠ .dict kv := fun _ e => by cases e
      refine ⟨_, rfl, V.int i, _, _, _, _, rfl, .ty _, Dp.ty (.int i : Dp K H (.int i) (.int i)), kit_str nod, _, rfl, ?_⟩
      refine iteF ?_
      refine ⟨_, rfl, i, rfl, small_int hv.1 hv.2, ?_⟩
      refine ⟨_, _, rfl, rfl, ?_, ?_⟩
      · have h1 := intL_len hv.1 hv.2
        rw [cl_len (Str.ofString (toString i)), cl_int]
        have h2 : ("#" : Str).length = 1 := by decide +kernel
        rw [h2]
        exact Nat.le_trans (Nat.add_le_add_left h1 1) (by decide)
      have e : ("#" : Str) ++ Str.ofString (toString i) = st (35 :: intL i) := by
        apply cl_inj
        rw [show cl (("#" : Str) ++ Str.ofString (toString i)) = cl "#" ++ cl (Str.ofString (toString i)) from TL.tl_append _ _, cl_int]
        rfl
      have q : Q (.str (st (35 :: intL i))) H := q
      rw [← e] at q
      exact q
    | str s =>
      refine ⟨_, rfl, rfl, _, rfl, ?_⟩
      refine iteF ?_
      have nod : ∀ kv, PyData.str s ≠ .dict kv := fun _ e => by cases e
      have hv : s.length ≤ 10000 := hv
      refine ⟨_, rfl, V.str s, _, _, _, _, rfl, .ty _, Dp.ty (.str s : Dp K H (.str s) (.str s)), kit_str nod, _, rfl, ?_⟩
      refine iteT ?_
      refine ⟨_, rfl, _, _, rfl, rfl, by rw [q39l]; exact Nat.le_trans (Nat.add_le_add_left hv 1) (by decide), _, _, rfl, rfl, by rw [len_app, q39l]; exact Nat.le_trans (Nat.add_le_add_right (Nat.add_le_add_left hv 1) 1) (by decide), ?_⟩
      have q : Q (.str (st (txtW (cl s)))) H := q
      rw [← quote] at q
      exact q
    | bl b => exact hv.elim
    | lst _ _ => exact hv.elim
    | tup _ _ => exact hv.elim
theorem cut_tail (x : V) (xs : List V) : cutV (x :: xs) (some 1) (some (((x :: xs).length : Nat) : Int)) = xs := by
  unfold cutV
  rw [HT.sIx_nat, Nat.min_self, show HT.sIx (x :: xs).length 0 (some 1) = 1 from (HT.sIx_nat _ 0 1).trans (Nat.min_eq_left (by simp))]
  exact List.take_of_length_le (by simp)
theorem all_c {K : PySem.W.Frag} {H : Hp} : ∀ {f : List Kd} {r : List PyData}, GPs f r → (∀ k, k ∈ f → k = .c) → ∀ {xs : List V}, DpAll K H xs r →
    ∃ is : List Nat, xs = (is.map fun n : Nat => V.int (n : Int)) ∧ List.zipWith partW f r = is.map TL.numL ∧ (∀ m, m ∈ is → m ≤ 1048576) ∧ is.length = f.length
  | _, _, .nil, _, _, .nil => ⟨[], rfl, rfl, (fun m h => nomatch h), rfl⟩
  | _, _, .cons (k := k) (f := f) h t, hall, _, .cons g tt => by
    obtain ⟨is, h1, h2, h3, h4⟩ := all_c t (fun k hk => hall k (List.mem_cons_of_mem _ hk)) tt
    have hk := hall _ List.mem_cons_self
    subst hk
    obtain ⟨n, rfl, hn⟩ := h
    cases g
    refine ⟨n :: is, by rw [h1]; rfl, ?_, fun m hm => ?_, by rw [List.length_cons, List.length_cons, h4]⟩
    · rw [List.zipWith_cons_cons, h2, List.map_cons]
      show intL (n : Int) :: _ = _
      rw [intL_nat]
    · rcases List.mem_cons.mp hm with rfl | hm
      · exact hn
      · exact h3 m hm
theorem joinW {K : PySem.W.Frag} {H : Hp} {d : PyData} {p : Addr} {Q : VK} (hsm : Sm d) (hp : H p = some (.lst (wV (wordsD d)))) (q : Q (.str (st (lineD d))) H) :
    ∃ a p', ∃ ys : List Str, V.str (Str.ofString " ") = .str a ∧ [V.ref p] = [.ref p'] ∧ (SqL K H p' (ys.map V.str) ∨ SqT K H p' (ys.map V.str)) ∧ (ys.map (·.length)).sum + ys.length * a.length ≤ 16777216 ∧ Q (.str (Txt.join a ys)) H := by
  refine ⟨Str.ofString " ", p, (wordsD d).map st, rfl, rfl, .inl (SqL.of (by rw [hp, wV_eq])), ?_, ?_⟩
  · rw [sum_st, List.length_map]
    have : (Str.ofString " ").length = 1 := by decide +kernel
    rw [this]
    unfold Sm at hsm
    omega
  · rw [join_st]
    exact q
theorem ok_lln {f fV : Addr} {fd fdV : FuncData} (D : Dfn K mg "_law_line" s_law_line p_law_line f fd) (B : Bi mg) (DV : Dfn K mg "_law_value_word" s_law_value_word p_law_value_word fV fdV) (GV : FnOk P w K mg base CX0 1 fV fdV p_law_value_word (spLVW K)) : FnOk P w K mg base CX0 2 f fd p_law_line (spLLn K) := by
  have nd := sc_law_line.nd
  refine D.F.ok sc_law_line (fun vs H Q E h => ?_) (fun cdv A outer s H vs Q E hr h => ?_)
  · obtain ⟨x, d, rfl, _⟩ := h
    rfl
  · obtain ⟨x, d, rfl, hx, hg, hsm, q⟩ := h
    refine ⟨_, pss_cons (ps_if (pt_cmpR op_eq (pe_ix (r := rIxT K) ix_tup (pv 0) pe_int (fun _ _ => rfl)) pe_str (nomark _)) (pss_one (ps_ret (pe_join pe_str (pe_op op_cat (pe_lst (pa_cons pe_str (pa_cons (pe_callTy call_str_int (by rfl) B.str (by decide +kernel) (pa_cons (pe_ix (r := rIxT K) ix_tup (pv 0) pe_int (fun _ _ => rfl)) pa_nil)) pa_nil)))
          (pe_lc (own := [("one", 2), ("two", 3)]) (g := gTup K 2 (gCons (gName 2) (gCons (gName 3) gNil))) (tt := tYes) (te := tPr2) rfl nd (pi_tup (pe_ix (r := rIxT K) ix_tup (pv 0) pe_int (fun _ _ => rfl))) (blkOk_by (N := n_law_line) (sc := defScope s_law_line) (by decide +kernel))
            (fun _ _ _ _ _ => by exact pg_tup (n := 2) rfl (pgs_cons (pg_name (i := 2) nd rfl (.inl rfl)) (pgs_cons (pg_name (i := 3) nd rfl (.inl rfl)) pgs_nil))) (fun _ _ _ _ _ => pts_nil) (fun _ _ _ _ _ => by exact (pe_op op_add_str (pe_op op_add_str (pe_callTy call_str_int (by rfl) B.str (by decide +kernel) (pa_cons (pv 2) pa_nil)) pe_str) (pe_callTy call_str_int (by rfl) B.str (by decide +kernel) (pa_cons (pv 3) pa_nil))))))))) pss_nil)
      (pss_cons (ps_set (i := 1) nd rfl (.inl rfl) (pe_op op_cat (pe_lst (pa_cons (pe_ix (r := rIxT K) ix_tup (pv 0) pe_int (fun _ _ => rfl)) pa_nil))
        (pe_lc (own := [("one", 2)]) (g := gName 2) (tt := tYes) (te := tCB rStrJ (tCons (tVar 2) tNil)) rfl nd (pi_tup (pe_slice sl_tupA (pv 0) (po_some pe_int) (po_some (pe_ifExp (pt_cmpR op_in_seq (pe_ix (r := rIxT K) ix_tup (pv 0) pe_int (fun _ _ => rfl)) (pe_lst (pa_cons pe_str (pa_cons pe_str pa_nil))) (by rfl)) pe_int (pe_callB call_len_seq (by rfl) B.len PySem.boot_len (pa_cons (pv 0) pa_nil)))))) (blkOk_by (N := n_law_line) (sc := defScope s_law_line) (by decide +kernel))
          (fun _ _ _ _ _ => pg_name (i := 2) nd rfl (.inl rfl)) (fun _ _ _ _ _ => pts_nil) (fun _ _ _ _ _ => by exact (pe_callTy call_str_int (by rfl) B.str (by decide +kernel) (pa_cons (pv 2) pa_nil))))))
      (pss_cons (ps_if (pt_cmpR op_in_seq (pe_ix (r := rIxT K) ix_tup (pv 0) pe_int (fun _ _ => rfl)) (pe_lst (pa_cons pe_str (pa_cons pe_str pa_nil))) (by rfl)) (pss_one (ps_expr (pe_bm PySem.F.plainAttrs_list PySem.F.slot_list_append PySem.F.type_list_append mt_append (pv 1) (pa_cons (pe_op op_add_str (pe_op op_add_str pe_str (pe_ix (r := rIxT K) ix_tup (pv 0) pe_int (fun _ _ => rfl))) pe_str) pa_nil)))) pss_nil)
      (pss_one (ps_ret (pe_join pe_str (pe_ifExp (pt_cmpR op_eq (pe_ix (r := rIxT K) ix_tup (pv 0) pe_int (fun _ _ => rfl)) pe_str (nomark _)) (pe_op op_cat (pv 1) (pe_lst (pa_cons (pe_call GV hr (by rfl) DV.g DV.F.kp DV.b .nil pass0 (pa_cons (pe_ix (r := rIxT K) ix_tup (pv 0) pe_int (fun _ _ => rfl)) pa_nil)) pa_nil))) (pv 1))))))), ?_⟩
    cases hg with
    | @world n ls hn hls =>
      have ew : wordsD (.tuple [.str "world", .int (n : Int), .tuple ls]) = cl "world" :: (intL (n : Int) :: ls.map pairW) := wordsD_w
      cases hx with
      | @tup a xs0 _ ha t =>
      obtain ⟨x0, xs1, rfl, h0, t1⟩ := dpa_cons t
      obtain ⟨x1, xs2, rfl, h1, t2⟩ := dpa_cons t1
      obtain ⟨x2, xs3, rfl, h2, t3⟩ := dpa_cons t2
      cases t3
      cases h0
      cases h1
      cases h2 with
      | @tup a3 xs3 _ ha3 t3 =>
      refine ⟨_, rfl, a, _, _, _, rfl, rfl, ha, at_of (j := 0) rfl rfl, rfl, _, rfl, ?_⟩
      refine iteT ?_
      refine ⟨⟨_, rfl⟩, _, rfl, a, _, _, _, rfl, rfl, ha, at_of (j := 1) rfl rfl, _, rfl, fmt_int hn, (by show 2 ≤ sizeLine; decide), fun l1 nl1 => ?_⟩
      have s1 := Same.new (o := .lst [V.str "world", V.str (Str.ofString (toString (n : Int)))]) nl1
      have hl1 : (upd H l1 (.lst [V.str "world", V.str (Str.ofString (toString (n : Int)))])) l1 = some (.lst [V.str "world", V.str (Str.ofString (toString (n : Int)))]) := upd_same
      generalize upd H l1 (.lst [V.str "world", V.str (Str.ofString (toString (n : Int)))]) = H1 at s1 hl1
      refine ⟨_, rfl, a, _, _, _, rfl, rfl, Same.seqT s1 ha, at_of (j := 2) rfl rfl, a3, rfl, ⟨_, Same.seqT s1 ha3⟩, fun Dl hD => ?_⟩
      have x3 := DpAll.len t3
      have lb : ls.length ≤ 50000 := by
        have hsm' := hsm
        unfold Sm at hsm'
        rw [ew] at hsm'
        simp only [List.length_cons, List.length_map] at hsm'
        omega
      refine lc_dat (walk_tup (K := K) (a := a3) (xs := xs3)) (K := K) ((ls.map pairW).map fun l => PyData.str (st l)) hD (by rw [List.length_map, List.length_map]; omega) (by omega) (noLs_str _) (fun H' s' => Same.seqT (s1.trans s') ha3) ?_ ?_ gTup2_mono
      · rintro i y H4 H5 e R hi s4 ⟨rfl, hy⟩ hR
        have s14 := s1.trans s4
        obtain ⟨b, hb, hyb⟩ := dpa_at (DpAll.same s14 _ _ t3) hy
        rw [List.getElem?_map, List.getElem?_map, hb] at hi
        have hi := Option.some.inj hi
        subst hi
        obtain ⟨u, v, rfl, hu, hv⟩ := hls b (List.mem_of_getElem? hb)
        cases hyb with
        | @tup p _ _ hp tp =>
        cases tp with
        | cons g0 tp =>
        cases tp with
        | cons g1 tp =>
        cases tp
        cases g0
        cases g1
        refine ⟨p, _, rfl, hp, rfl, _, _, rfl, _, _, rfl, rfl, rfl, ?_⟩
        have e1 := len_int hu
        have e3 := len_int hv
        have e2 : ("-" : Str).length = 1 := by decide +kernel
        refine ⟨_, rfl, _, rfl, fmt_int hu, _, _, rfl, rfl, by rw [e2]; exact Nat.le_trans (by omega : _ ≤ 21) (by decide), _, rfl, _, rfl, fmt_int hv, _, _, rfl, rfl, by rw [len_app, e2]; exact Nat.le_trans (by omega : _ ≤ 41) (by decide), ?_⟩
        have ev : Str.ofString (toString (u : Int)) ++ ("-" : Str) ++ Str.ofString (toString (v : Int)) = st (pairW (.tuple [.int (u : Int), .int (v : Int)])) := by
          apply cl_inj
          rw [show cl (Str.ofString (toString (u : Int)) ++ ("-" : Str) ++ Str.ofString (toString (v : Int))) = (cl (Str.ofString (toString (u : Int))) ++ cl "-") ++ cl (Str.ofString (toString (v : Int))) by
            rw [show cl (Str.ofString (toString (u : Int)) ++ ("-" : Str) ++ Str.ofString (toString (v : Int))) = _ from TL.tl_append _ _, TL.tl_append], cl_int, cl_int, cl_st]
          show ((intL (u : Int)) ++ [45]) ++ intL (v : Int) = intL (u : Int) ++ 45 :: intL (v : Int)
          simp
        show R (V.str (Str.ofString (toString (u : Int)) ++ ("-" : Str) ++ Str.ofString (toString (v : Int)))) _
        rw [ev]
        exact hR _ _ (Same.refl _) (.str _)
      · rintro H6 ys s6 hd6 hys
        have ey := dpa_str hys
        subst ey
        refine ⟨l1, Dl, _, _, rfl, rfl, s6 _ _ hl1, hd6, by unfold wV; rw [List.length_map, List.length_map, sizeLine_eq]; simp only [List.length_cons, List.length_nil]; omega, fun p np => ?_⟩
        refine joinW hsm ?_ (q _ ((s1.trans s6).trans (Same.new np)))
        rw [upd_same, ew]
        have e0 : Str.ofString (toString (n : Int)) = st (intL (n : Int)) := by
          apply cl_inj
          rw [cl_int, cl_st]
        rw [e0]
        rfl
    | @step z fm r hf hp =>
      have hz := (forms_wd _ (formOf_mem hf)).1
      have ew := wordsD_step (r := r) hf
      cases hx with
      | @tup a xs0 _ ha t =>
      obtain ⟨x0, xs, rfl, h0, t2⟩ := dpa_cons t
      cases h0
      have xl := DpAll.len t2
      have gl := gps_len hp
      refine ⟨_, rfl, a, _, _, _, rfl, rfl, ha, at_of (j := 0) rfl rfl, rfl, _, rfl, ?_⟩
      rw [show decide (V.str z = V.str "world") = false from decide_eq_false fun e => hz (V.str.inj e)]
      refine iteF ?_
      refine nxtL ?_
      refine asgFL ?_
      refine ⟨_, rfl, a, _, _, _, rfl, rfl, ha, at_of (j := 0) rfl rfl, (by show 1 ≤ sizeLine; decide), fun l1 nl1 => ?_⟩
      have s1 := Same.new (o := .lst [V.str z]) nl1
      have hl1 : (upd H l1 (.lst [V.str z])) l1 = some (.lst [V.str z]) := upd_same
      generalize upd H l1 (.lst [V.str z]) = H1 at s1 hl1
      have ha1 := Same.seqT s1 ha
      refine ⟨_, rfl, _, rfl, ?_⟩
      refine ⟨_, rfl, a, _, _, _, rfl, rfl, ha1, at_of (j := 0) rfl rfl, (by show 2 ≤ sizeLine; decide), fun l2 nl2 => ?_⟩
      have s2 := s1.trans (Same.new (o := .lst [V.str "write", .str "show"]) nl2)
      have hl12 := (Same.new (o := .lst [V.str "write", .str "show"]) nl2) _ _ hl1
      refine tIn upd_same rfl rfl ?_
      generalize upd H1 l2 (.lst [V.str "write", .str "show"]) = H2 at s2 hl12
      rw [in2]
      refine ⟨_, rfl, ?_⟩
      have ha2 := Same.seqT s2 ha
      have ht2 := DpAll.same s2 _ _ t2
      have kinds := forms_kind _ (formOf_mem hf)
      rcases kinds with ⟨hzw, hfm⟩ | ⟨hzs, hfm⟩ | ⟨nw, nsh, hall⟩
      · -- write
        have hzw' : z = "write" := hzw
        clear hzw
        have hfm : fm = [.c, .k, .v] := hfm
        subst hfm
        cases hp with
        | cons g1 hp =>
        cases hp with
        | cons g2 hp =>
        cases hp with
        | cons g3 hp =>
        cases hp
        obtain ⟨n, rfl, hn⟩ := g1
        obtain ⟨kk, rfl, hk1, hk2, hk3⟩ := g2
        obtain ⟨u, rfl, hu⟩ := g3
        obtain ⟨x1, xs2, rfl, h1, t3⟩ := dpa_cons t2
        obtain ⟨x2, xs3, rfl, h2, t4⟩ := dpa_cons t3
        obtain ⟨x3, xs4, rfl, h3, t5⟩ := dpa_cons t4
        cases t5
        have hx1 : x1 = V.int (n : Int) := by cases h1; rfl
        have hx2 : x2 = V.str (tx kk) := by cases h2; rfl
        have hib : ∀ m, m ∈ [n] → m ≤ 1048576 := fun m hm => by rw [List.mem_singleton.mp hm]; exact hn
        rw [decide_eq_true hzw', Bool.true_or]
        refine iteT ?_
        refine ⟨_, rfl, ?_⟩
        refine slG ha2 fun p H3 s3 hp3 => ?_
        have hp3 : SqT K H3 p (([n]).map fun n : Nat => V.int (n : Int)) := (show cutV [V.str z, x1, x2, x3] (some 1) (some 2) = ([n].map fun n : Nat => V.int (n : Int)) by rw [hx1]; rfl) ▸ hp3
        have s23 := s2.trans s3
        have hl13 := s3 _ _ hl12
        refine ⟨p, rfl, ⟨_, hp3⟩, fun Dl hD => ?_⟩
        refine lc_dat (walk_tup (K := K) (a := p) (xs := ([n]).map fun n : Nat => V.int (n : Int))) (K := K) ((([n]).map TL.numL).map fun l => PyData.str (st l)) hD (by rw [List.length_map, List.length_map, List.length_map]) (by simp) (noLs_str _) (fun H' s' => Same.seqT s' hp3) ?_ ?_ gName_mono
        · rintro i y H4 H5 e R hi s4 ⟨rfl, hy⟩ hR
          rw [List.getElem?_map] at hy
          obtain ⟨m, hm, rfl⟩ := Option.map_eq_some_iff.mp hy
          rw [List.getElem?_map, List.getElem?_map, hm] at hi
          have hi := Option.some.inj hi
          subst hi
          have hmb := hib m (List.mem_of_getElem? hm)
          refine ⟨rfl, ?_⟩
          refine ⟨_, rfl, (m : Int), rfl, fmt_int hmb, ?_⟩
          have e0 : Str.ofString (toString (m : Int)) = st (TL.numL m) := by
            apply cl_inj
            rw [cl_int, cl_st, intL_nat]
          rw [e0]
          exact hR _ _ (Same.refl _) (.str _)
        rintro H6 ys s6 hd6 hys
        have ey := dpa_str hys
        subst ey
        have s26 := s23.trans s6
        have hl16 := s6 _ _ hl13
        refine ⟨l1, Dl, _, _, rfl, rfl, hl16, hd6, by unfold wV; rw [List.length_map, List.length_map, sizeLine_eq]; simp only [List.length_cons, List.length_nil]; omega, fun lw nlw => ?_⟩
        have s27 := s26.trans (Same.new (o := .lst ([V.str z] ++ wV (([n]).map TL.numL))) nlw)
        have hlw : (upd H6 lw (.lst ([V.str z] ++ wV (([n]).map TL.numL)))) lw = some (.lst (wV (cl z :: ([n]).map TL.numL))) := by
          rw [upd_same]
          show _ = some (HO.lst (V.str (st (cl z)) :: wV (([n]).map TL.numL)))
          rw [st_cl]
          rfl
        have nH : H lw = none := s26.free nlw
        generalize upd H6 lw (.lst ([V.str z] ++ wV (([n]).map TL.numL))) = H7 at s27 hlw
        have ha7 := Same.seqT s27 ha
        refine gnE ?_
        refine ifFL ?_
        refine ⟨_, rfl, a, _, _, _, rfl, rfl, ha7, at_of (j := 0) rfl rfl, (by show 2 ≤ sizeLine; decide), fun l3 nl3 => ?_⟩
        have s28 := s27.trans (Same.new (o := .lst [V.str "write", .str "show"]) nl3)
        have hlw8 := (Same.new (o := .lst [V.str "write", .str "show"]) nl3) _ _ hlw
        refine tIn upd_same rfl rfl ?_
        generalize upd H7 l3 (.lst [V.str "write", .str "show"]) = H8 at s28 hlw8
        rw [in2]
        have ha8 := Same.seqT s28 ha
        refine ⟨_, rfl, ?_⟩
        rw [decide_eq_true hzw', Bool.true_or]
        refine iteT ?_
        have lk : (tx kk).length ≤ 40 := by rw [tx_len]; exact hk3
        subst hx2
        refine ⟨_, rfl, .inl ⟨rfl, _, SqL.of hlw8⟩, _, rfl, a, _, _, _, rfl, rfl, ha8, at_of (j := 2) rfl rfl, _, _, rfl, rfl, by rw [q39l]; exact Nat.le_trans (Nat.add_le_add_left lk 1) (by decide), _, _, rfl, rfl, by rw [len_app, q39l]; exact Nat.le_trans (Nat.add_le_add_right (Nat.add_le_add_left lk 1) 1) (by decide), ?_⟩
        refine ⟨lw, _, _, rfl, rfl, hlw8, (by show 2 < sizeLine; decide), ?_⟩
        rw [quote]
        have s29 : Same H (upd H8 lw (.lst (wV (cl z :: [n].map TL.numL) ++ [V.str (st (txtW (cl (tx kk))))]))) := fun b o hb => by
          rw [upd_ne (ne_of_none hb nH)]
          exact s28 _ _ hb
        have hlw9 : (upd H8 lw (.lst (wV (cl z :: [n].map TL.numL) ++ [V.str (st (txtW (cl (tx kk))))]))) lw = some (.lst (wV [cl z, TL.numL n, txtW (cl (tx kk))])) := upd_same
        generalize upd H8 lw (.lst (wV (cl z :: [n].map TL.numL) ++ [V.str (st (txtW (cl (tx kk))))])) = H9 at s29 hlw9
        have ha9 := Same.seqT s29 ha
        refine ⟨⟨_, rfl⟩, _, rfl, a, _, _, _, rfl, rfl, ha9, at_of (j := 0) rfl rfl, rfl, _, rfl, ?_⟩
        rw [show decide (V.str z = V.str "write") = true from decide_eq_true (by rw [hzw'])]
        refine iteT ?_
        refine ⟨_, rfl, _, rfl, a, _, _, _, rfl, rfl, ha9, at_of (j := 3) rfl rfl, x3, uD u, rfl, Dp.same s29 _ _ h3, ?_, (by show 1 ≤ sizeLine; decide), fun l9 nl9 => ?_⟩
        · cases u with
          | non => exact trivial
          | int i => exact hu
          | txt l =>
            show (tx l).length ≤ 10000
            rw [tx_len]
            have := hu.2
            omega
        have s30 := s29.trans (Same.new (o := .lst [V.str (st (valWd (uD u)))]) nl9)
        have hlw10 := (Same.new (o := .lst [V.str (st (valWd (uD u)))]) nl9) _ _ hlw9
        have hl9 : (upd H9 l9 (.lst [V.str (st (valWd (uD u)))])) l9 = some (.lst [V.str (st (valWd (uD u)))]) := upd_same
        generalize upd H9 l9 (.lst [V.str (st (valWd (uD u)))]) = H10 at s30 hlw10 hl9
        refine ⟨lw, l9, _, _, rfl, rfl, hlw10, hl9, (by show 3 + 1 ≤ sizeLine; decide), fun pz npz => ?_⟩
        refine joinW hsm ?_ (q _ (s30.trans (Same.new npz)))
        rw [upd_same, ew]
        show some (HO.lst [V.str (st (cl z)), V.str (st (TL.numL n)), V.str (st (txtW (cl (tx kk)))), V.str (st (valWd (uD u)))]) = some (HO.lst [V.str (st (cl z)), V.str (st (intL (n : Int))), V.str (st (txtW (cl (tx kk)))), V.str (st (valWd (uD u)))])
        rw [intL_nat]
      · -- show
        have hzs' : z = "show" := hzs
        clear hzs
        have hfm : fm = [.c, .k] := hfm
        subst hfm
        cases hp with
        | cons g1 hp =>
        cases hp with
        | cons g2 hp =>
        cases hp
        obtain ⟨n, rfl, hn⟩ := g1
        obtain ⟨kk, rfl, hk1, hk2, hk3⟩ := g2
        obtain ⟨x1, xs2, rfl, h1, t3⟩ := dpa_cons t2
        obtain ⟨x2, xs3, rfl, h2, t4⟩ := dpa_cons t3
        cases t4
        have hx1 : x1 = V.int (n : Int) := by cases h1; rfl
        have hx2 : x2 = V.str (tx kk) := by cases h2; rfl
        have hib : ∀ m, m ∈ [n] → m ≤ 1048576 := fun m hm => by rw [List.mem_singleton.mp hm]; exact hn
        rw [decide_eq_true hzs', Bool.or_true]
        refine iteT ?_
        refine ⟨_, rfl, ?_⟩
        refine slG ha2 fun p H3 s3 hp3 => ?_
        have hp3 : SqT K H3 p (([n]).map fun n : Nat => V.int (n : Int)) := (show cutV [V.str z, x1, x2] (some 1) (some 2) = ([n].map fun n : Nat => V.int (n : Int)) by rw [hx1]; rfl) ▸ hp3
        have s23 := s2.trans s3
        have hl13 := s3 _ _ hl12
        refine ⟨p, rfl, ⟨_, hp3⟩, fun Dl hD => ?_⟩
        refine lc_dat (walk_tup (K := K) (a := p) (xs := ([n]).map fun n : Nat => V.int (n : Int))) (K := K) ((([n]).map TL.numL).map fun l => PyData.str (st l)) hD (by rw [List.length_map, List.length_map, List.length_map]) (by simp) (noLs_str _) (fun H' s' => Same.seqT s' hp3) ?_ ?_ gName_mono
        · rintro i y H4 H5 e R hi s4 ⟨rfl, hy⟩ hR
          rw [List.getElem?_map] at hy
          obtain ⟨m, hm, rfl⟩ := Option.map_eq_some_iff.mp hy
          rw [List.getElem?_map, List.getElem?_map, hm] at hi
          have hi := Option.some.inj hi
          subst hi
          have hmb := hib m (List.mem_of_getElem? hm)
          refine ⟨rfl, ?_⟩
          refine ⟨_, rfl, (m : Int), rfl, fmt_int hmb, ?_⟩
          have e0 : Str.ofString (toString (m : Int)) = st (TL.numL m) := by
            apply cl_inj
            rw [cl_int, cl_st, intL_nat]
          rw [e0]
          exact hR _ _ (Same.refl _) (.str _)
        rintro H6 ys s6 hd6 hys
        have ey := dpa_str hys
        subst ey
        have s26 := s23.trans s6
        have hl16 := s6 _ _ hl13
        refine ⟨l1, Dl, _, _, rfl, rfl, hl16, hd6, by unfold wV; rw [List.length_map, List.length_map, sizeLine_eq]; simp only [List.length_cons, List.length_nil]; omega, fun lw nlw => ?_⟩
        have s27 := s26.trans (Same.new (o := .lst ([V.str z] ++ wV (([n]).map TL.numL))) nlw)
        have hlw : (upd H6 lw (.lst ([V.str z] ++ wV (([n]).map TL.numL)))) lw = some (.lst (wV (cl z :: ([n]).map TL.numL))) := by
          rw [upd_same]
          show _ = some (HO.lst (V.str (st (cl z)) :: wV (([n]).map TL.numL)))
          rw [st_cl]
          rfl
        have nH : H lw = none := s26.free nlw
        generalize upd H6 lw (.lst ([V.str z] ++ wV (([n]).map TL.numL))) = H7 at s27 hlw
        have ha7 := Same.seqT s27 ha
        refine gnE ?_
        refine ifFL ?_
        refine ⟨_, rfl, a, _, _, _, rfl, rfl, ha7, at_of (j := 0) rfl rfl, (by show 2 ≤ sizeLine; decide), fun l3 nl3 => ?_⟩
        have s28 := s27.trans (Same.new (o := .lst [V.str "write", .str "show"]) nl3)
        have hlw8 := (Same.new (o := .lst [V.str "write", .str "show"]) nl3) _ _ hlw
        refine tIn upd_same rfl rfl ?_
        generalize upd H7 l3 (.lst [V.str "write", .str "show"]) = H8 at s28 hlw8
        rw [in2]
        have ha8 := Same.seqT s28 ha
        refine ⟨_, rfl, ?_⟩
        rw [decide_eq_true hzs', Bool.or_true]
        refine iteT ?_
        have lk : (tx kk).length ≤ 40 := by rw [tx_len]; exact hk3
        subst hx2
        refine ⟨_, rfl, .inl ⟨rfl, _, SqL.of hlw8⟩, _, rfl, a, _, _, _, rfl, rfl, ha8, at_of (j := 2) rfl rfl, _, _, rfl, rfl, by rw [q39l]; exact Nat.le_trans (Nat.add_le_add_left lk 1) (by decide), _, _, rfl, rfl, by rw [len_app, q39l]; exact Nat.le_trans (Nat.add_le_add_right (Nat.add_le_add_left lk 1) 1) (by decide), ?_⟩
        refine ⟨lw, _, _, rfl, rfl, hlw8, (by show 2 < sizeLine; decide), ?_⟩
        rw [quote]
        have s29 : Same H (upd H8 lw (.lst (wV (cl z :: [n].map TL.numL) ++ [V.str (st (txtW (cl (tx kk))))]))) := fun b o hb => by
          rw [upd_ne (ne_of_none hb nH)]
          exact s28 _ _ hb
        have hlw9 : (upd H8 lw (.lst (wV (cl z :: [n].map TL.numL) ++ [V.str (st (txtW (cl (tx kk))))]))) lw = some (.lst (wV [cl z, TL.numL n, txtW (cl (tx kk))])) := upd_same
        generalize upd H8 lw (.lst (wV (cl z :: [n].map TL.numL) ++ [V.str (st (txtW (cl (tx kk))))])) = H9 at s29 hlw9
        have ha9 := Same.seqT s29 ha
        refine ⟨⟨_, rfl⟩, _, rfl, a, _, _, _, rfl, rfl, ha9, at_of (j := 0) rfl rfl, rfl, _, rfl, ?_⟩
        rw [show decide (V.str z = V.str "write") = false from decide_eq_false fun e => by rw [hzs'] at e; exact absurd (V.str.inj e) (by decide +kernel)]
        refine iteF ?_
        refine ⟨_, rfl, ?_⟩
        refine joinW hsm ?_ (q _ s29)
        rw [hlw9, ew]
        show _ = some (HO.lst [V.str (st (cl z)), V.str (st (intL (n : Int))), V.str (st (txtW (cl (tx kk))))])
        rw [intL_nat]
        rfl
      · -- counts
        have nw : z ≠ "write" := nw
        have nsh : z ≠ "show" := nsh
        have hall : ∀ k, k ∈ fm → k = .c := hall
        rw [decide_eq_false nw, decide_eq_false nsh]
        obtain ⟨is, hxs, hws, hib, hil⟩ : ∃ is : List Nat, xs = (is.map fun n : Nat => V.int (n : Int)) ∧ List.zipWith partW fm r = is.map TL.numL ∧ (∀ m, m ∈ is → m ≤ 1048576) ∧ is.length = fm.length := by
          exact all_c hp hall t2
        have fl3 : fm.length ≤ 3 := forms_len _ (formOf_mem hf)
        refine iteF ?_
        refine ⟨_, rfl, a, _, rfl, .inr ha2, _, rfl, ?_⟩
        refine slG ha2 fun p H3 s3 hp3 => ?_
        have hp3 : SqT K H3 p ((is).map fun n : Nat => V.int (n : Int)) := (show cutV (V.str z :: xs) (some 1) (some (((V.str z :: xs).length : Nat) : Int)) = (is.map fun n : Nat => V.int (n : Int)) by rw [hxs]; exact cut_tail _ _) ▸ hp3
        have s23 := s2.trans s3
        have hl13 := s3 _ _ hl12
        refine ⟨p, rfl, ⟨_, hp3⟩, fun Dl hD => ?_⟩
        refine lc_dat (walk_tup (K := K) (a := p) (xs := (is).map fun n : Nat => V.int (n : Int))) (K := K) (((is).map TL.numL).map fun l => PyData.str (st l)) hD (by rw [List.length_map, List.length_map, List.length_map]) (by rw [List.length_map]; omega) (noLs_str _) (fun H' s' => Same.seqT s' hp3) ?_ ?_ gName_mono
        · rintro i y H4 H5 e R hi s4 ⟨rfl, hy⟩ hR
          rw [List.getElem?_map] at hy
          obtain ⟨m, hm, rfl⟩ := Option.map_eq_some_iff.mp hy
          rw [List.getElem?_map, List.getElem?_map, hm] at hi
          have hi := Option.some.inj hi
          subst hi
          have hmb := hib m (List.mem_of_getElem? hm)
          refine ⟨rfl, ?_⟩
          refine ⟨_, rfl, (m : Int), rfl, fmt_int hmb, ?_⟩
          have e0 : Str.ofString (toString (m : Int)) = st (TL.numL m) := by
            apply cl_inj
            rw [cl_int, cl_st, intL_nat]
          rw [e0]
          exact hR _ _ (Same.refl _) (.str _)
        rintro H6 ys s6 hd6 hys
        have ey := dpa_str hys
        subst ey
        have s26 := s23.trans s6
        have hl16 := s6 _ _ hl13
        refine ⟨l1, Dl, _, _, rfl, rfl, hl16, hd6, by unfold wV; rw [List.length_map, List.length_map, sizeLine_eq]; simp only [List.length_cons, List.length_nil]; omega, fun lw nlw => ?_⟩
        have s27 := s26.trans (Same.new (o := .lst ([V.str z] ++ wV ((is).map TL.numL))) nlw)
        have hlw : (upd H6 lw (.lst ([V.str z] ++ wV ((is).map TL.numL)))) lw = some (.lst (wV (cl z :: (is).map TL.numL))) := by
          rw [upd_same]
          show _ = some (HO.lst (V.str (st (cl z)) :: wV ((is).map TL.numL)))
          rw [st_cl]
          rfl
        have nH : H lw = none := s26.free nlw
        generalize upd H6 lw (.lst ([V.str z] ++ wV ((is).map TL.numL))) = H7 at s27 hlw
        have ha7 := Same.seqT s27 ha
        refine gnE ?_
        refine ifFL ?_
        refine ⟨_, rfl, a, _, _, _, rfl, rfl, ha7, at_of (j := 0) rfl rfl, (by show 2 ≤ sizeLine; decide), fun l3 nl3 => ?_⟩
        have s28 := s27.trans (Same.new (o := .lst [V.str "write", .str "show"]) nl3)
        have hlw8 := (Same.new (o := .lst [V.str "write", .str "show"]) nl3) _ _ hlw
        refine tIn upd_same rfl rfl ?_
        generalize upd H7 l3 (.lst [V.str "write", .str "show"]) = H8 at s28 hlw8
        rw [in2]
        have ha8 := Same.seqT s28 ha
        refine ⟨_, rfl, ?_⟩
        rw [decide_eq_false nw, decide_eq_false nsh]
        refine iteF ?_
        refine ⟨⟨_, rfl⟩, _, rfl, a, _, _, _, rfl, rfl, ha8, at_of (j := 0) rfl rfl, rfl, _, rfl, ?_⟩
        rw [show decide (V.str z = V.str "write") = false from decide_eq_false fun e => nw (V.str.inj e)]
        refine iteF ?_
        refine ⟨_, rfl, ?_⟩
        refine joinW hsm ?_ (q _ s28)
        rw [hlw8, ew, hws]
end
end K19
end
section
namespace K19
open PySem L2 No RZ
/-! ### the law: pure -/
def okDs (i : Nat) (ds : List PyData) : Prop := ∀ d, d ∈ ds → GSt d ∧ isWd d = false
theorem rd_many : ∀ (ds : List PyData) (i : Nat) (rest : List (List Nat)), (∀ d, d ∈ ds → GSt d ∧ isWd d = false) → 1 ≤ i → i + ds.length ≤ 200 →
    rdF i (ds.map lineD ++ rest) = (match rdF (i + ds.length) rest with | .error k => .error k | .ok es => .ok (ds ++ es))
  | [], i, rest, _, _, _ => by
    show rdF i rest = _
    rw [show i + ([] : List PyData).length = i from rfl]
    cases rdF i rest <;> rfl
  | d :: ds, i, rest, h, h1, h2 => by
    obtain ⟨g, gw⟩ := h d List.mem_cons_self
    have l1 : (d :: ds).length = ds.length + 1 := rfl
    rw [l1] at h2 ⊢
    show rdF i (lineD d :: (ds.map lineD ++ rest)) = _
    rw [rdF_cons, step_back g]
    dsimp only
    rw [gw, decide_eq_false (show ¬ i = 200 by omega), decide_eq_false (show ¬ i = 0 by omega)]
    rw [if_neg (by simp), rd_many ds (i + 1) rest (fun x hx => h x (List.mem_cons_of_mem _ hx)) (by omega) (by omega), show i + 1 + ds.length = i + (ds.length + 1) by omega]
    cases rdF (i + (ds.length + 1)) rest <;> rfl
theorem rd_head {d : PyData} (g : GSt d) (gw : isWd d = true) (rest : List (List Nat)) : rdF 0 (lineD d :: rest) = (match rdF 1 rest with | .error k => .error k | .ok es => .ok (d :: es)) := by
  rw [rdF_cons, step_back g]
  dsimp only
  rw [gw]
  rfl
def rdE (ps : List (List Nat)) : Option Nat := match rdF 0 ps with
  | .error k => some k
  | .ok _ => none
theorem GScr.split {ds : List PyData} (h : GScr ds) : ∃ d r, ds = d :: r ∧ isWd d = true ∧ GSt d ∧ (∀ e, e ∈ r → GSt e ∧ isWd e = false) ∧ r.length ≤ 20 := by
  obtain ⟨n, ls, r, e, hw⟩ := h.hd
  have hg := h.gs
  have hl := h.ln
  rw [e] at hg hl
  exact ⟨_, r, e, rfl, hg _ List.mem_cons_self, fun x hx => ⟨hg x (List.mem_cons_of_mem _ hx), hw x hx⟩, by simp only [List.length_cons] at hl; omega⟩
theorem rd_script {ds : List PyData} (h : GScr ds) : rdF 0 (ds.map lineD) = .ok ds := by
  obtain ⟨d, r, rfl, hw, hg, hr, hl⟩ := h.split
  rw [List.map_cons, rd_head hg hw]
  have := rd_many r 1 [] hr (Nat.le_refl _) (by omega)
  rw [List.append_nil] at this
  rw [this]
  rw [show rdF (1 + r.length) [] = .ok [] from rfl]
  dsimp only
  rw [List.append_nil]
/-- a line between -/
def ins (L : List (List Nat)) (k : Nat) (b : List Nat) : List (List Nat) := L.take k ++ [b] ++ L.drop k
theorem rd_ins {ds : List PyData} (h : GScr ds) {k : Nat} (h1 : 1 ≤ k) (h2 : k ≤ ds.length) {b : List Nat} :
    ((stepTd b = none ∨ ∃ d, stepTd b = some d ∧ isWd d = true) → rdE (ins (ds.map lineD) k b) = some k) ∧ (∀ d, stepTd b = some d → isWd d = false → rdE (ins (ds.map lineD) k b) = none) := by
  obtain ⟨d0, r, rfl, hw, hg, hr, hl⟩ := h.split
  obtain ⟨a, rfl⟩ : ∃ a, k = a + 1 := ⟨k - 1, by omega⟩
  have ha : a ≤ r.length := by simp only [List.length_cons] at h2; omega
  have e : ins ((d0 :: r).map lineD) (a + 1) b = lineD d0 :: ((r.take a).map lineD ++ (b :: (r.drop a).map lineD)) := by
    unfold ins
    rw [List.map_cons, List.take_succ_cons, List.drop_succ_cons, List.map_take, List.map_drop]
    simp
  have tl : (r.take a).length = a := by rw [List.length_take]; omega
  have key := rd_many (r.take a) 1 (b :: (r.drop a).map lineD) (fun x hx => hr x (List.mem_of_mem_take hx)) (Nat.le_refl _) (by omega)
  rw [tl] at key
  unfold rdE
  rw [e, rd_head hg hw, key, rdF_cons]
  constructor
  · rintro (hb | ⟨d, hb, hd⟩)
    · rw [hb, show 1 + a = a + 1 by omega]
    · rw [hb]
      dsimp only
      rw [hd, decide_eq_false (show ¬ 1 + a = 0 by omega), if_pos (by simp), show 1 + a = a + 1 by omega]
  · intro d hb hd
    rw [hb]
    dsimp only
    rw [hd, decide_eq_false (show ¬ 1 + a = 200 by omega), decide_eq_false (show ¬ 1 + a = 0 by omega)]
    have key2 := rd_many (r.drop a) (1 + a + 1) [] (fun x hx => hr x (List.mem_of_mem_drop hx)) (by omega) (by rw [List.length_drop]; omega)
    rw [List.append_nil] at key2
    rw [if_neg (by simp), key2, show rdF (1 + a + 1 + (r.drop a).length) [] = .ok [] from rfl]
theorem joinL10 {S : Nat} : ∀ {ws : List (List Nat)} {c : Nat}, c ≠ S → (∀ l, l ∈ ws → c ∉ l) → c ∉ TL.joinL [S] ws
  | [], c, _, _ => by simp [TL.joinL]
  | [l], c, _, h => h l List.mem_cons_self
  | l :: m :: r, c, hc, h => by
    have ih := joinL10 (S := S) (ws := m :: r) hc fun x hx => h x (List.mem_cons_of_mem _ hx)
    show c ∉ l ++ ([S] ++ TL.joinL [S] (m :: r))
    intro hm
    rcases List.mem_append.mp hm with hm | hm
    · exact h l List.mem_cons_self hm
    rcases List.mem_append.mp hm with hm | hm
    · exact hc (List.mem_singleton.mp hm)
    · exact ih hm
theorem num10 (n : Nat) : 10 ∉ TL.numL n := TL.numL_free (by omega)
theorem int10 (i : Int) : 10 ∉ intL i := by
  unfold intL
  split
  · intro h
    rcases List.mem_cons.mp h with h | h
    · cases h
    · exact num10 _ h
  · exact num10 _
theorem txt10 {l : List Nat} (h : Sgs l) : 10 ∉ txtW (cl (tx l)) := by
  unfold txtW
  intro hm
  rcases List.mem_cons.mp hm with hm | hm
  · cases hm
  rcases List.mem_append.mp hm with hm | hm
  · exact no10 h hm
  · cases List.mem_singleton.mp hm
theorem gp10 : ∀ {k : Kd} {d : PyData}, GP k d → 10 ∉ partW k d
  | .c, _, ⟨n, rfl, h⟩ => int10 _
  | .k, _, ⟨l, rfl, h1, h2, h3⟩ => txt10 h1
  | .v, _, ⟨.non, rfl, h⟩ => by decide
  | .v, _, ⟨.int i, rfl, h⟩ => fun hm => by
    rcases List.mem_cons.mp hm with hm | hm
    · cases hm
    · exact int10 _ hm
  | .v, _, ⟨.txt l, rfl, h⟩ => txt10 h.1
theorem gps10 {f : List Kd} {r : List PyData} (h : GPs f r) : ∀ l, l ∈ List.zipWith partW f r → 10 ∉ l := by
  induction h with
  | nil => intro l hl; cases hl
  | cons h t ih =>
    intro l hl
    rw [List.zipWith_cons_cons] at hl
    rcases List.mem_cons.mp hl with rfl | hl
    · exact gp10 h
    · exact ih l hl
theorem gst10 {d : PyData} (h : GSt d) : 10 ∉ lineD d := by
  unfold lineD
  refine joinL10 (by decide) fun l hl => ?_
  cases h with
  | @world n ls h hls =>
    rw [wordsD_w] at hl
    rcases List.mem_cons.mp hl with rfl | hl
    · decide +kernel
    rcases List.mem_cons.mp hl with rfl | hl
    · exact int10 _
    · obtain ⟨d, hd, rfl⟩ := List.mem_map.mp hl
      obtain ⟨a, b, rfl, _, _⟩ := hls d hd
      intro hm
      have hm : 10 ∈ intL (a : Int) ++ 45 :: intL (b : Int) := hm
      rcases List.mem_append.mp hm with hm | hm
      · exact int10 _ hm
      rcases List.mem_cons.mp hm with hm | hm
      · cases hm
      · exact int10 _ hm
  | @step z f r hf hp =>
    rw [wordsD_step hf] at hl
    rcases List.mem_cons.mp hl with rfl | hl
    · exact (forms_wd _ (formOf_mem hf)).2.2.2.2.1
    · exact gps10 hp l hl
theorem split_st {ps : List (List Nat)} (hne : ps ≠ []) (h : ∀ l, l ∈ ps → 10 ∉ l) : Txt.split (st (TL.joinL [10] ps)) (Str.ofString "\n") = ps.map st := by
  rw [← join_nl]
  refine TL.split_join (s := 10) (S := []) (by rw [nl_eq]; rfl) (by decide +kernel) (by simpa using hne) fun p hp => ?_
  obtain ⟨l, hl, rfl⟩ := List.mem_map.mp hp
  exact h l hl
theorem joinL10_len : ∀ (ws : List (List Nat)), (TL.joinL [10] ws).length ≤ wsum ws + ws.length
  | [] => by simp [TL.joinL]
  | [l] => by simp [TL.joinL, wsum]
  | l :: m :: r => by
    have := joinL10_len (m :: r)
    show (l ++ ([10] ++ TL.joinL [10] (m :: r))).length ≤ _
    rw [List.length_append, List.length_append]
    unfold wsum at this ⊢
    simp only [List.map_cons, List.sum_cons, List.length_cons, List.length_nil] at this ⊢
    omega
/-! the lines near -/
def badL : List Str := (["", " ", "tick", "tick  0", "tick 0 ", " tick 0", "tick 00", "tick -1", "tick 1048577", "ticks 0", "tick x", "flush 0", "show 0", "show 0 fruit", "show 0 ''", "write 0 'a'", "write 0 'a' ##1", "write 0 'a' #01", "write 0 'a' #-0", "write 0 'a' x",
  "write 0 'a' '", "write 0 'a'b' none", "write 0 'a' #1099511627777", "write 0 'a' none none", "spoil 0 1", "world 2 0-1", "cut 0", "cut 0 1 2", "deliver all", "show 0 'a~'", "write 0 'a' '~'", "show 'a'", "alike 1"] : List String).map Str.ofString
def fineL : List Str := (["write 0 'a' ''", "write 0 ' ' #-1", "write 0 'a b' 'c  d'", "spoil 0 0 256", "tick 1048576", "write 9 'a' #1099511627776", "settle 2000"] : List String).map Str.ofString
def tdNone (b : Str) : Bool := match stepTd (cl b) with
  | none => true
  | some d => isWd d
def tdSome (b : Str) : Bool := match stepTd (cl b) with
  | none => false
  | some d => !isWd d

def lnOk (b : Str) : Bool := !(cl b).contains 10 && decide ((cl b).length ≤ 100)
theorem bad_all : (badL.all fun b => tdNone b && lnOk b) = true := by decide +kernel
theorem fine_all : (fineL.all fun b => tdSome b && lnOk b) = true := by decide +kernel
theorem ln_ok {b : Str} (h : lnOk b = true) : 10 ∉ cl b ∧ (cl b).length ≤ 100 := by
  unfold lnOk at h
  rw [Bool.and_eq_true, decide_eq_true_eq] at h
  exact ⟨by simpa using h.1, h.2⟩
theorem bad_ok (b : Str) (hb : b ∈ badL) : (stepTd (cl b) = none ∨ ∃ d, stepTd (cl b) = some d ∧ isWd d = true) ∧ 10 ∉ cl b ∧ (cl b).length ≤ 100 := by
  have h := List.all_eq_true.mp bad_all b hb
  rw [Bool.and_eq_true] at h
  refine ⟨?_, ln_ok h.2⟩
  have h1 := h.1
  unfold tdNone at h1
  cases e : stepTd (cl b) with
  | none => exact .inl rfl
  | some d => rw [e] at h1; exact .inr ⟨d, rfl, h1⟩
theorem fine_ok (b : Str) (hb : b ∈ fineL) : (∃ d, stepTd (cl b) = some d ∧ isWd d = false) ∧ 10 ∉ cl b ∧ (cl b).length ≤ 100 := by
  have h := List.all_eq_true.mp fine_all b hb
  rw [Bool.and_eq_true] at h
  refine ⟨?_, ln_ok h.2⟩
  have h1 := h.1
  unfold tdSome at h1
  cases e : stepTd (cl b) with
  | none => rw [e] at h1; cases h1
  | some d =>
    rw [e] at h1
    exact ⟨d, rfl, by simpa using h1⟩
/-! the written texts -/
structure RowOk (x : Str) (ps : List (List Nat)) (o : Option Nat) : Prop where
  e : x = st (TL.joinL [10] ps)
  ne : ps ≠ []
  n10 : ∀ l, l ∈ ps → 10 ∉ l
  le : ∀ l, l ∈ ps → l.length ≤ 100
  ln : ps.length ≤ 300
  rd : rdE ps = o
theorem row1 (x : Str) (o : Option Nat) (h : (lnOk x && decide (rdE [cl x] = o)) = true) : RowOk x [cl x] o := by
  rw [Bool.and_eq_true, decide_eq_true_eq] at h
  have := ln_ok h.1
  exact ⟨(st_cl x).symm, by simp, fun l hl => by rw [List.mem_singleton.mp hl]; exact this.1, fun l hl => by rw [List.mem_singleton.mp hl]; exact this.2, by simp, h.2⟩
def alk : List Nat := cl (Str.ofString "alike")
def w2 : List Nat := cl (Str.ofString "world 2")
theorem alk_td : ∃ d, stepTd alk = some d ∧ isWd d = false := by
  have h : tdSome (Str.ofString "alike") = true := by decide +kernel
  unfold tdSome at h
  cases e : stepTd (cl (Str.ofString "alike")) with
  | none => rw [e] at h; cases h
  | some d =>
    rw [e] at h
    exact ⟨d, e, by simpa using h⟩
theorem w2_td : ∃ d, stepTd w2 = some d ∧ isWd d = true := by
  have h : (match stepTd w2 with | none => false | some d => isWd d) = true := by decide +kernel
  cases e : stepTd w2 with
  | none => rw [e] at h; cases h
  | some d =>
    rw [e] at h
    exact ⟨d, rfl, h⟩
theorem rd_alk : ∀ (n i : Nat), 1 ≤ i → (i + n ≤ 200 → ∃ es, rdF i (List.replicate n alk) = .ok es) ∧ (200 < i + n → i ≤ 200 → rdF i (List.replicate n alk) = .error 200)
  | 0, i, h => ⟨fun _ => ⟨[], rfl⟩, fun h1 h2 => absurd h1 (by omega)⟩
  | n + 1, i, h => by
    obtain ⟨d, hd, hw⟩ := alk_td
    obtain ⟨ih1, ih2⟩ := rd_alk n (i + 1) (by omega)
    rw [List.replicate_succ, rdF_cons, hd]
    dsimp only
    rw [hw, decide_eq_false (show ¬ i = 0 by omega)]
    constructor
    · intro hi
      obtain ⟨es, he⟩ := ih1 (by omega)
      rw [decide_eq_false (show ¬ i = 200 by omega), if_neg (by simp), he]
      exact ⟨d :: es, rfl⟩
    · intro h1 h2
      by_cases e : i = 200
      · rw [decide_eq_true e, if_pos (by simp), e]
      · rw [decide_eq_false e, if_neg (by simp), ih2 (by omega) (by omega)]
theorem rd_w2 (n : Nat) : rdE (w2 :: List.replicate n alk) = if n ≤ 199 then none else some 200 := by
  obtain ⟨d, hd, hw⟩ := w2_td
  obtain ⟨h1, h2⟩ := rd_alk n 1 (Nat.le_refl _)
  unfold rdE
  rw [rdF_cons, hd]
  dsimp only
  rw [hw]
  by_cases e : n ≤ 199
  · obtain ⟨es, he⟩ := h1 (by omega)
    rw [if_pos e, he]
    rfl
  · rw [if_neg e, h2 (by omega) (by omega)]
    rfl
theorem joinL_rep : ∀ (n : Nat) (w : List Nat), TL.joinL [10] (w :: List.replicate n alk) = w ++ (List.replicate n (10 :: alk)).flatten
  | 0, w => by simp [TL.joinL]
  | n + 1, w => by
    rw [List.replicate_succ, List.replicate_succ, List.flatten_cons]
    show w ++ ([10] ++ TL.joinL [10] (alk :: List.replicate n alk)) = _
    rw [joinL_rep n alk]
    simp
end K19
end
section
namespace K19
open PySem L2 No RZ
/-! ### the law: pure, the rest -/
theorem foldl_app {L : List (Array Nat)} : ∀ (acc : Array Nat), (L.foldl (· ++ ·) acc).toList = acc.toList ++ (L.map Array.toList).flatten := by
  induction L with
  | nil => intro acc; simp
  | cons x L ih =>
    intro acc
    rw [List.foldl_cons, ih]
    simp
theorem mul_cl (x : Str) (n : Nat) (h : 2 ≤ n) (hx : x.length ≠ 0) : cl (Txt.mul x (n : Int)) = (List.replicate n (cl x)).flatten := by
  unfold Txt.mul
  rw [if_neg (by omega)]
  have e : ((n : Int) == 1 || x.length == 0) = false := by
    rw [Bool.or_eq_false_iff]
    refine ⟨?_, by simpa using hx⟩
    rw [beq_eq_false_iff_ne]
    omega
  rw [if_neg (by rw [e]; exact Bool.false_ne_true), Int.toNat_natCast]
  show (List.foldl (· ++ ·) #[] (List.replicate n x.cps)).toList = _
  rw [foldl_app, List.map_replicate]
  rfl
theorem mul_len (n : Nat) (h2 : 2 ≤ n) (h : n ≤ 200) : (Str.ofString "world 2").length + (Txt.mul (Str.ofString "\nalike") (n : Int)).length ≤ sizeLine := by
  rw [cl_len (Txt.mul _ _), mul_cl _ n h2 (by decide +kernel)]
  have e1 : (Str.ofString "world 2").length = 7 := by decide +kernel
  have e2 : (cl (Str.ofString "\nalike")).length = 6 := by decide +kernel
  have e3 : (List.replicate n (cl (Str.ofString "\nalike"))).flatten.length = n * 6 := by
    rw [List.length_flatten, List.map_replicate, e2, List.sum_replicate_nat]
  rw [e1, e3, sizeLine_eq]
  omega
theorem row_w2 (n : Nat) (h2 : 2 ≤ n) (h : n ≤ 200) {o : Option Nat} (ho : (if n ≤ 199 then none else some 200) = o) : RowOk (Str.ofString "world 2" ++ Txt.mul (Str.ofString "\nalike") (n : Int)) (w2 :: List.replicate n alk) o := by
  have ew : lnOk (Str.ofString "world 2") = true := by decide +kernel
  have ea : lnOk (Str.ofString "alike") = true := by decide +kernel
  have ew := ln_ok ew
  have ea := ln_ok ea
  refine ⟨?_, by simp, fun l hl => ?_, fun l hl => ?_, by simp; omega, by rw [rd_w2]; exact ho⟩
  · apply cl_inj
    rw [show cl (Str.ofString "world 2" ++ Txt.mul (Str.ofString "\nalike") (n : Int)) = cl (Str.ofString "world 2") ++ cl (Txt.mul (Str.ofString "\nalike") (n : Int)) from TL.tl_append _ _, mul_cl _ n h2 (by decide +kernel), cl_st, joinL_rep]
    have : cl (Str.ofString "\nalike") = 10 :: alk := by decide +kernel
    rw [this]
    rfl
  · rcases List.mem_cons.mp hl with rfl | hl
    · exact ew.1
    · rw [List.eq_of_mem_replicate hl]
      exact ea.1
  · rcases List.mem_cons.mp hl with rfl | hl
    · exact ew.2
    · rw [List.eq_of_mem_replicate hl]
      exact ea.2
theorem row_nl : RowOk (Str.ofString "world 2\n") [w2, []] (some 1) := by
  refine ⟨by decide +kernel, by simp, fun l hl => ?_, fun l hl => ?_, by simp, by decide +kernel⟩
  · rcases List.mem_cons.mp hl with rfl | hl
    · decide +kernel
    · rw [List.mem_singleton.mp hl]
      decide
  · rcases List.mem_cons.mp hl with rfl | hl
    · decide +kernel
    · rw [List.mem_singleton.mp hl]
      decide
/-! what check_steps tells of near values -/
theorem fb_many : ∀ (ds : List PyData) (i : Nat) (rest : List PyData), (∀ d, d ∈ ds → GSt d ∧ isWd d = false) → 1 ≤ i → fbS i (ds ++ rest) = fbS (i + ds.length) rest
  | [], i, rest, _, _ => rfl
  | d :: ds, i, rest, h, h1 => by
    obtain ⟨g, gw⟩ := h d List.mem_cons_self
    show fbS i (d :: (ds ++ rest)) = _
    rw [fbS_step, gst_d g, gw, decide_eq_false (show ¬ i = 0 by omega), if_neg (by simp), fb_many ds (i + 1) rest (fun x hx => h x (List.mem_cons_of_mem _ hx)) (by omega), List.length_cons, show i + 1 + ds.length = i + (ds.length + 1) by omega]
theorem fb_all' {ds : List PyData} (h : GScr ds) (rest : List PyData) : fbS 0 (ds ++ rest) = fbS ds.length rest := by
  obtain ⟨d, r, rfl, hw, hg, hr, hl⟩ := h.split
  show fbS 0 (d :: (r ++ rest)) = _
  rw [fbS_step, gst_d hg, hw, if_neg (by simp), fb_many r 1 rest hr (Nat.le_refl _), List.length_cons, show 1 + r.length = r.length + 1 by omega]
theorem GScr.pos {ds : List PyData} (h : GScr ds) : 1 ≤ ds.length := by
  obtain ⟨d, r, rfl, _⟩ := h.split
  simp
theorem cs_all {ds : List PyData} (h : GScr ds) : csO (.tuple ds) = none := by
  have l := h.ln
  have p := h.pos
  have e := fb_all' h []
  rw [List.append_nil] at e
  show (if 1 ≤ ds.length ∧ ds.length ≤ 200 then (fbS 0 ds).map some else some none) = none
  rw [if_pos ⟨p, by omega⟩, e]
  rfl
theorem cs_more {ds : List PyData} (h : GScr ds) {d : PyData} (hd : stepD d = false ∨ isWd d = true) : csO (.tuple (ds ++ [d])) = some (some ds.length) := by
  have l := h.ln
  have p := h.pos
  show (if 1 ≤ (ds ++ [d]).length ∧ (ds ++ [d]).length ≤ 200 then (fbS 0 (ds ++ [d])).map some else some none) = _
  rw [List.length_append, List.length_singleton, if_pos ⟨by omega, by omega⟩, fb_all' h, fbS_step, decide_eq_false (show ¬ ds.length = 0 by omega)]
  have : (!stepD d || isWd d != false) = true := by
    rcases hd with hd | hd
    · rw [hd]; rfl
    · rw [hd]; simp
  rw [if_pos this]
  rfl
theorem cs_tail {d : PyData} {r : List PyData} (hr : ∀ e, e ∈ r → GSt e ∧ isWd e = false) (hl : r.length ≤ 20) : csO (.tuple r) = if r = [] then some none else some (some 0) := by
  show (if 1 ≤ r.length ∧ r.length ≤ 200 then (fbS 0 r).map some else some none) = _
  cases r with
  | nil => rfl
  | cons e r =>
    obtain ⟨g, gw⟩ := hr e List.mem_cons_self
    rw [if_pos ⟨by simp, by omega⟩, fbS_step, gst_d g, gw, if_pos (by simp), if_neg (by simp)]
    rfl
def bad1 : PyData := .tuple [.str "tick", .bool true]
def bad2 : PyData := .tuple [.str "tick"]
def bad3 : PyData := .tuple [.str "show", .int 0, .str ""]
theorem bad1_ok : stepD bad1 = false := by decide +kernel
theorem bad2_ok : stepD bad2 = false := by decide +kernel
theorem bad3_ok : stepD bad3 = false := by decide +kernel
theorem ok0_gp : ∀ {k : Kd} {d : PyData}, GP k d → SL d ∧ ∀ ls, d ≠ .tuple ls
  | .c, _, ⟨n, rfl, h⟩ => ⟨fun s e => (by cases e), fun ls e => by cases e⟩
  | .k, _, ⟨l, rfl, h1, h2, h3⟩ => ⟨fun s e => by
    cases e
    rw [tx_len]
    omega, fun ls e => by cases e⟩
  | .v, _, ⟨.non, rfl, h⟩ => ⟨fun s e => (by cases e), fun ls e => by cases e⟩
  | .v, _, ⟨.int i, rfl, h⟩ => ⟨fun s e => (by cases e), fun ls e => by cases e⟩
  | .v, _, ⟨.txt l, rfl, h⟩ => ⟨fun s e => by
    have e : PyData.str (tx l) = .str s := e
    cases e
    have := h.2
    rw [tx_len]
    omega, fun ls e => by cases e⟩
theorem ok0_gps {f : List Kd} {r : List PyData} (h : GPs f r) : ∀ d, d ∈ r → SL d ∧ ∀ ls, d ≠ .tuple ls := by
  induction h with
  | nil => intro d hd; cases hd
  | cons h t ih =>
    intro d hd
    rcases List.mem_cons.mp hd with rfl | hd
    · exact ok0_gp h
    · exact ih d hd
theorem gst_ok0 {d : PyData} (h : GSt d) (hs : Sm d) : Ok0 d := by
  intro ds e
  subst e
  cases h with
  | @world n ls hn hl =>
    refine ⟨by simp, fun d hd => ?_, fun ms hm => ?_⟩
    · rcases List.mem_cons.mp hd with rfl | hd
      · intro s e
        cases e
        decide +kernel
      rcases List.mem_cons.mp hd with rfl | hd
      · intro s e
        cases e
      · rw [List.mem_singleton.mp hd]
        intro s e
        cases e
    · rcases List.mem_cons.mp hm with e | hm
      · cases e
      rcases List.mem_cons.mp hm with e | hm
      · cases e
      · have e := List.mem_singleton.mp hm
        cases e
        unfold Sm at hs
        rw [wordsD_w] at hs
        simp only [List.length_cons, List.length_map] at hs
        omega
  | @step z f r hf hp =>
    have hl := gps_len hp
    have h3 : f.length ≤ 3 := forms_len _ (formOf_mem hf)
    have hk := ok0_gps hp
    refine ⟨by simp only [List.length_cons]; omega, fun d hd => ?_, fun ms hm => ?_⟩
    · rcases List.mem_cons.mp hd with rfl | hd
      · intro s e
        have e := PyData.str.inj e
        have := (forms_wd _ (formOf_mem hf)).2.2.2.2.2
        have this : (cl z).length ≤ 10 := this
        rw [← e, cl_len]
        omega
      · exact (hk d hd).1
    · rcases List.mem_cons.mp hm with e | hm
      · cases e
      · exact absurd rfl ((hk _ hm).2 ms)
theorem ok0_bad : Ok0 bad1 ∧ Ok0 bad2 ∧ Ok0 bad3 := by
  refine ⟨fun ds e => ?_, fun ds e => ?_, fun ds e => ?_⟩
  · cases e
    refine ⟨by simp, fun d hd => ?_, fun ms hm => by simp at hm⟩
    rcases List.mem_cons.mp hd with rfl | hd
    · intro s e; cases e; decide +kernel
    · rw [List.mem_singleton.mp hd]; intro s e; cases e
  · cases e
    refine ⟨by simp, fun d hd => ?_, fun ms hm => by simp at hm⟩
    rw [List.mem_singleton.mp hd]; intro s e; cases e; decide +kernel
  · cases e
    refine ⟨by simp, fun d hd => ?_, fun ms hm => by simp at hm⟩
    rcases List.mem_cons.mp hd with rfl | hd
    · intro s e; cases e; decide +kernel
    rcases List.mem_cons.mp hd with rfl | hd
    · intro s e; cases e
    · rw [List.mem_singleton.mp hd]; intro s e; cases e; decide +kernel
theorem ok3_of {ds : List PyData} (hl : ds.length ≤ 100000) (h : ∀ e, e ∈ ds → Ok0 e) : Ok3 (.tuple ds) := fun es e => by
  cases e
  exact ⟨hl, h⟩
theorem GScr.ok0 {ds : List PyData} (h : GScr ds) : ∀ e, e ∈ ds → Ok0 e := fun e he => gst_ok0 (h.gs e he) (h.sm e he)
/-! plain data -/
theorem lay_st {l : List Nat} (h : ∀ c, c ∈ l → c < 1114112) : PyData.canLay0 (.str (st l)) = true := by
  show (st l).cps.all (· < 0x110000) = true
  unfold st
  rw [← Array.all_toList]
  simp only [List.all_eq_true, decide_eq_true_eq]
  exact h
theorem lay_txL {l : List Nat} (h : Sgs l) : PyData.canLay0 (.str (tx l)) = true := by
  have small : ∀ k, k < 77 → sg k < 1114112 := by decide +kernel
  have := lay_st (l := l.map sg) fun c hc => by
    obtain ⟨k, hk, rfl⟩ := List.mem_map.mp hc
    exact small k (h k hk)
  exact this
theorem pl_str (n : Nat) (x : Str) (h : PyData.canLay0 (.str x) = true) : Pl n (.str x) := by cases n <;> exact h
theorem gp_pl (n : Nat) : ∀ {k : Kd} {d : PyData}, GP k d → Pl n d
  | .c, _, ⟨m, rfl, h⟩ => by cases n <;> exact trivial
  | .k, _, ⟨l, rfl, h1, h2, h3⟩ => pl_str n _ (lay_txL h1)
  | .v, _, ⟨.non, rfl, h⟩ => by cases n <;> exact trivial
  | .v, _, ⟨.int i, rfl, h⟩ => by cases n <;> exact trivial
  | .v, _, ⟨.txt l, rfl, h⟩ => pl_str n _ (lay_txL h.1)
theorem gps_pl (n : Nat) {f : List Kd} {r : List PyData} (h : GPs f r) : ∀ d, d ∈ r → Pl n d := by
  induction h with
  | nil => intro d hd; cases hd
  | cons h t ih =>
    intro d hd
    rcases List.mem_cons.mp hd with rfl | hd
    · exact gp_pl n h
    · exact ih d hd
theorem forms_lay : ∀ p, p ∈ formsL → PyData.canLay0 (.str p.1) = true := by decide +kernel
theorem gst_pl {d : PyData} (h : GSt d) (hs : Sm d) : Pl 3 d := by
  cases h with
  | @world n ls hn hl =>
    have ll : ls.length ≤ 4000 := by
      unfold Sm at hs
      rw [wordsD_w] at hs
      simp only [List.length_cons, List.length_map] at hs
      omega
    refine ⟨by simp, fun x hx => ?_⟩
    rcases List.mem_cons.mp hx with rfl | hx
    · exact pl_str 2 _ (by decide +kernel)
    rcases List.mem_cons.mp hx with rfl | hx
    · exact trivial
    · rw [List.mem_singleton.mp hx]
      refine ⟨by omega, fun y hy => ?_⟩
      obtain ⟨a, b, rfl, _, _⟩ := hl y hy
      refine ⟨by simp, fun z hz => ?_⟩
      rcases List.mem_cons.mp hz with rfl | hz
      · exact trivial
      · rw [List.mem_singleton.mp hz]
        exact trivial
  | @step z f r hf hp =>
    have hl := gps_len hp
    have h3 : f.length ≤ 3 := forms_len _ (formOf_mem hf)
    refine ⟨by simp only [List.length_cons]; omega, fun x hx => ?_⟩
    rcases List.mem_cons.mp hx with rfl | hx
    · exact pl_str 2 _ (forms_lay _ (formOf_mem hf))
    · exact gps_pl 2 hp x hx
theorem GScr.pl {ds : List PyData} (h : GScr ds) : Pl 4 (.tuple ds) := ⟨by have := h.ln; omega, fun d hd => gst_pl (h.gs d hd) (h.sm d hd)⟩
theorem pl_up : ∀ (m n : Nat) {d : PyData}, Pl n d → Pl (n + m) d
  | 0, _, _, h => h
  | m + 1, n, _, h => Pl.succ _ _ (pl_up m n h)
/-! the signs of lines -/
theorem small_joinL {S : Nat} (hS : S < 1114112) : ∀ {ws : List (List Nat)}, (∀ l, l ∈ ws → ∀ c, c ∈ l → c < 1114112) → ∀ c, c ∈ TL.joinL [S] ws → c < 1114112
  | [], _, c, hc => by simp [TL.joinL] at hc
  | [l], h, c, hc => h l List.mem_cons_self c hc
  | l :: m :: r, h, c, hc => by
    have hc : c ∈ l ++ ([S] ++ TL.joinL [S] (m :: r)) := hc
    rcases List.mem_append.mp hc with hc | hc
    · exact h l List.mem_cons_self c hc
    rcases List.mem_append.mp hc with hc | hc
    · rw [List.mem_singleton.mp hc]
      exact hS
    · exact small_joinL hS (ws := m :: r) (fun x hx => h x (List.mem_cons_of_mem _ hx)) c hc
theorem small_num (n : Nat) : ∀ c, c ∈ TL.numL n → c < 1114112 := fun c hc => by
  have := TL.numL_digits n c hc
  omega
theorem small_int' (i : Int) : ∀ c, c ∈ intL i → c < 1114112 := by
  unfold intL
  split
  · intro c hc
    rcases List.mem_cons.mp hc with rfl | hc
    · decide
    · exact small_num _ c hc
  · exact small_num _
theorem small_txt {l : List Nat} (h : Sgs l) : ∀ c, c ∈ txtW (cl (tx l)) → c < 1114112 := fun c hc => by
  have small : ∀ k, k < 77 → sg k < 1114112 := by decide +kernel
  unfold txtW at hc
  rcases List.mem_cons.mp hc with rfl | hc
  · decide
  rcases List.mem_append.mp hc with hc | hc
  · rw [cl_tx] at hc
    obtain ⟨k, hk, rfl⟩ := List.mem_map.mp hc
    exact small k (h k hk)
  · rw [List.mem_singleton.mp hc]
    decide
theorem small_gp : ∀ {k : Kd} {d : PyData}, GP k d → ∀ c, c ∈ partW k d → c < 1114112
  | .c, _, ⟨n, rfl, h⟩ => small_int' _
  | .k, _, ⟨l, rfl, h1, h2, h3⟩ => small_txt h1
  | .v, _, ⟨.non, rfl, h⟩ => by decide
  | .v, _, ⟨.int i, rfl, h⟩ => fun c hc => by
    rcases List.mem_cons.mp hc with rfl | hc
    · decide
    · exact small_int' _ c hc
  | .v, _, ⟨.txt l, rfl, h⟩ => small_txt h.1
theorem small_gps {f : List Kd} {r : List PyData} (h : GPs f r) : ∀ l, l ∈ List.zipWith partW f r → ∀ c, c ∈ l → c < 1114112 := by
  induction h with
  | nil => intro l hl; cases hl
  | cons h t ih =>
    intro l hl
    rw [List.zipWith_cons_cons] at hl
    rcases List.mem_cons.mp hl with rfl | hl
    · exact small_gp h
    · exact ih l hl
theorem small_line {d : PyData} (h : GSt d) : ∀ c, c ∈ lineD d → c < 1114112 := by
  unfold lineD
  refine small_joinL (by decide) fun l hl => ?_
  cases h with
  | @world n ls h hls =>
    rw [wordsD_w] at hl
    rcases List.mem_cons.mp hl with rfl | hl
    · decide +kernel
    rcases List.mem_cons.mp hl with rfl | hl
    · exact small_int' _
    · obtain ⟨d, hd, rfl⟩ := List.mem_map.mp hl
      obtain ⟨a, b, rfl, _, _⟩ := hls d hd
      intro c hm
      have hm : c ∈ intL (a : Int) ++ 45 :: intL (b : Int) := hm
      rcases List.mem_append.mp hm with hm | hm
      · exact small_int' _ c hm
      rcases List.mem_cons.mp hm with rfl | hm
      · decide
      · exact small_int' _ c hm
  | @step z f r hf hp =>
    rw [wordsD_step hf] at hl
    have sz : ∀ p, p ∈ formsL → ∀ c, c ∈ cl p.1 → c < 1114112 := by decide +kernel
    rcases List.mem_cons.mp hl with rfl | hl
    · exact sz _ (formOf_mem hf)
    · exact small_gps hp l hl
theorem text_pl {ds : List PyData} (h : GScr ds) (n : Nat) : Pl n (.str (st (TL.joinL [10] (ds.map lineD)))) := pl_str n _ (lay_st (small_joinL (by decide) fun l hl => by
  obtain ⟨d, hd, rfl⟩ := List.mem_map.mp hl
  exact small_line (h.gs d hd)))
theorem dpa_rep {K : PySem.W.Frag} {H : Hp} {x : V} {d : PyData} (h : Dp K H x d) : ∀ n, DpAll K H (List.replicate n [x]).flatten (List.replicate n [d]).flatten
  | 0 => .nil
  | n + 1 => by
    rw [List.replicate_succ, List.replicate_succ, List.flatten_cons, List.flatten_cons]
    exact .cons h (dpa_rep h n)
theorem keep_tkl {fl : Addr} {H H' : Hp} {l : List V} (hf : H fl = some (.lst l)) (k : Keep fl H H') : TKl H H' := fun b o n h => k b o (fun e => by rw [e, hf] at h; exact n _ (Option.some.inj h).symm) h
def fl' : Option Nat → PyData
  | none => .none
  | some n => .int (n : Int)
theorem many_facts (wd : PyData) : ∀ n, 201 ≤ n → n ≤ 1000 → csO (.tuple (List.replicate n [wd]).flatten) = some none ∧ (List.replicate n [wd]).flatten.length ≤ 100000 ∧ ∀ e, e ∈ (List.replicate n [wd]).flatten → e = wd := by
  intro n h1 h2
  have hl : (List.replicate n [wd]).flatten.length = n := by
    rw [List.length_flatten, List.map_replicate, List.sum_replicate_nat]
    show n * 1 = n
    omega
  refine ⟨?_, by omega, fun e he => ?_⟩
  · show (if 1 ≤ (List.replicate n [wd]).flatten.length ∧ (List.replicate n [wd]).flatten.length ≤ 200 then _ else some none) = some none
    rw [hl, if_neg (by omega)]
  · obtain ⟨l, hl, hel⟩ := List.mem_flatten.mp he
    rw [List.eq_of_mem_replicate hl] at hel
    exact List.mem_singleton.mp hel
end K19
end
section
/-! a text times a number -/
namespace SD
open PySem PySem.Spec PyProof.Rows L2
def rMulS : R2 := fun x y H Q => ∃ z k, x = .str z ∧ y = .int k ∧ z.length ≤ 16 ∧ 0 ≤ k ∧ k ≤ 1048576 ∧ Q (.str (Txt.mul z k)) H
theorem op_mulS {X : Cx} : OpR X (binaryOp .Mult) rMulS := by
  intro pins s σ H x y v u Q I rx ry h
  obtain ⟨z, k, rfl, rfl, h1, h2, h3, q⟩ := h
  obtain ⟨t, rfl⟩ := rx
  obtain ⟨t2, rfl⟩ := ry
  exact PySem.W.KXi.mul rfl h1 (by omega) (by omega) fun t3 k3 _ _ => ⟨.str (Txt.mul z k), H, I.tok _, ⟨_, rfl⟩, q⟩
end SD
end
section
namespace K19
open PySem L2 No RZ
/-! ### texts of tuples of octets -/
/-- the reading makes, or finds, a tuple of these octets; what was tracked stands -/
def Gd (σ : St) (H : Hp) (te : TE) (l : List Nat) : Prop := ∀ H1, Same H H1 → ∀ Q : VK, (∀ (p : Addr) (H' : Hp), Same H1 H' → H' p = some (.tup (bV l)) → Q (.ref p) H') → te σ H1 Q
def Tus (H : Hp) : List Addr → List (List Nat) → Prop
  | [], [] => True
  | p :: ps, l :: ls => H p = some (.tup (bV l)) ∧ Tus H ps ls
  | _, _ => False
theorem Tus.same {H H' : Hp} (s : Same H H') : ∀ {ps : List Addr} {ls : List (List Nat)}, Tus H ps ls → Tus H' ps ls
  | [], [], _ => True.intro
  | _ :: _, _ :: _, h => ⟨s _ _ h.1, Tus.same s h.2⟩
theorem Tus.keep {r : Addr} {H H' : Hp} (s : Keep r H H') (n : ∀ xs, H r ≠ some (.tup xs)) : ∀ {ps : List Addr} {ls : List (List Nat)}, Tus H ps ls → Tus H' ps ls
  | [], [], _ => True.intro
  | _ :: _, _ :: _, h => ⟨s _ _ (fun e => n _ (e ▸ h.1)) h.1, Tus.keep s n h.2⟩
theorem Tus.get {H : Hp} : ∀ {ps : List Addr} {ls : List (List Nat)} {i : Nat} {p : Addr}, Tus H ps ls → ps[i]? = some p → ∃ l, ls[i]? = some l ∧ H p = some (.tup (bV l))
  | [], [], i, t, _, h => by simp at h
  | t' :: ts, c :: cs, 0, t, h, e => by
    have e' : t' = t := Option.some.inj e
    subst e'
    exact ⟨c, rfl, h.1⟩
  | _ :: ts, _ :: cs, i + 1, t, h, e => Tus.get (i := i) h.2 e
theorem Tus.len {H : Hp} : ∀ {ps : List Addr} {ls : List (List Nat)}, Tus H ps ls → ps.length = ls.length
  | [], [], _ => rfl
  | _ :: ts, _ :: cs, h => by rw [List.length_cons, List.length_cons, Tus.len h.2]
theorem Tus.append {H : Hp} : ∀ {ps : List Addr} {ls : List (List Nat)} {qs : List Addr} {ms : List (List Nat)}, Tus H ps ls → Tus H qs ms → Tus H (ps ++ qs) (ls ++ ms)
  | [], [], _, _, _, h => h
  | _ :: _, _ :: _, _, _, h, g => ⟨h.1, Tus.append h.2 g⟩
def GdL (σ : St) (H : Hp) (ta : TA) (ls : List (List Nat)) : Prop := ∀ H1, Same H H1 → ∀ Q : List V → Hp → Prop, (∀ (ps : List Addr) (H' : Hp), Same H1 H' → Tus H' ps ls → Q (ps.map V.ref) H') → ta σ H1 Q
section
variable {σ : St} {H : Hp} {t1 t2 : TE} {l l1 l2 : List Nat} {K : PySem.W.Frag}
theorem gd_nil : Gd σ H (tTup tNil) [] := fun H1 s Q q => ⟨Nat.zero_le _, fun p hp => q p _ (Same.new hp) upd_same⟩
theorem gd_one {a : Nat} : Gd σ H (tTup (tCons (tC (.int (a : Int))) tNil)) [a] := fun H1 s Q q => ⟨(by show 1 ≤ sizeLine; decide), fun p hp => q p _ (Same.new hp) upd_same⟩
theorem gd_two {a b : Nat} : Gd σ H (tTup (tCons (tC (.int (a : Int))) (tCons (tC (.int (b : Int))) tNil))) [a, b] := fun H1 s Q q => ⟨(by show 2 ≤ sizeLine; decide), fun p hp => q p _ (Same.new hp) upd_same⟩
theorem gd_rep {k : Nat} (h : Gd σ H t1 l) (h1 : l ≠ []) (h2 : 2 ≤ k) (h3 : k ≤ 1000) (h4 : l.length ≤ 1000) : Gd σ H (tOp (rRepT K) t1 (tC (.int (k : Int)))) (List.replicate k l).flatten := fun H1 s Q q => by
  refine h H1 s _ fun p H2 s2 hp => ?_
  refine ⟨p, _, bV l, rfl, rfl, .inl (.inl hp), ?_, by omega, by omega, by rw [bV_len]; exact h4, fun p2 np2 => ?_⟩
  · intro e
    have := congrArg List.length e
    rw [bV_len] at this
    exact h1 (List.eq_nil_of_length_eq_zero this)
  · refine q p2 _ (s2.trans (Same.new np2)) ?_
    rw [upd_same, Int.toNat_natCast]
    have e : (List.replicate k (bV l)).flatten = bV (List.replicate k l).flatten := by
      unfold bV
      rw [List.map_flatten, List.map_replicate]
    rw [e]
theorem gd_cat (h : Gd σ H t1 l1) (g : Gd σ H t2 l2) (h1 : l1 ≠ []) (h2 : l2 ≠ []) (h3 : l1.length + l2.length ≤ 1000) : Gd σ H (tOp (rCatT K) t1 t2) (l1 ++ l2) := fun H1 s Q q => by
  refine h H1 s _ fun p H2 s2 hp => ?_
  refine g H2 (s.trans s2) _ fun p2 H3 s3 hp2 => ?_
  refine ⟨p, p2, bV l1, bV l2, rfl, rfl, .inl (.inl (s3 _ _ hp)), .inl (.inl hp2), ?_, ?_, fun e => ?_, fun _ p3 np3 => ?_⟩
  · intro e
    have := congrArg List.length e
    rw [bV_len] at this
    exact h1 (List.eq_nil_of_length_eq_zero this)
  · rw [bV_len, bV_len]
    exact Nat.le_trans h3 (by decide)
  · have := congrArg List.length e
    rw [bV_len] at this
    exact absurd (List.eq_nil_of_length_eq_zero this) h2
  · refine q p3 _ ((s2.trans s3).trans (Same.new np3)) ?_
    rw [upd_same, bV_append]
theorem gd_catA (h : Gd σ H t1 l1) (g : Gd σ H t2 l2) (h3 : l1.length + l2.length ≤ 1000) : Gd σ H (tOp (rCatA K) t1 t2) (l1 ++ l2) := fun H1 s Q q => by
  refine h H1 s _ fun p H2 s2 hp => ?_
  refine g H2 (s.trans s2) _ fun p2 H3 s3 hp2 => ?_
  have nl : ∀ {m : List Nat}, bV m = [] → m = [] := fun {m} e => by
    have := congrArg List.length e
    rw [bV_len] at this
    exact List.eq_nil_of_length_eq_zero this
  refine ⟨p, p2, bV l1, bV l2, rfl, rfl, .inl (.inl (s3 _ _ hp)), .inl (.inl hp2), ?_, fun e => ?_, fun _ e => ?_, fun _ _ p3 np3 => ?_⟩
  · rw [bV_len, bV_len]
    exact Nat.le_trans h3 (by decide)
  · rw [nl e] at q
    exact q p2 H3 (s2.trans s3) hp2
  · rw [nl e, List.append_nil] at q
    exact q p H3 (s2.trans s3) (s3 _ _ hp)
  · refine q p3 _ ((s2.trans s3).trans (Same.new np3)) ?_
    rw [upd_same, bV_append]
/-- a name that holds one -/
theorem gd_var {i : Nat} {p : Addr} (e : σ[i]? = some (some (.ref p))) (hp : H p = some (.tup (bV l))) : Gd σ H (tVar i) l := fun H1 s Q q => ⟨_, e, q p H1 (fun _ _ h => h) (s _ _ hp)⟩
/-- t[:k] -/
theorem gd_upto {i k : Nat} {p : Addr} (e : σ[i]? = some (some (.ref p))) (hp : H p = some (.tup (bV l))) : Gd σ H (tSl (rSlA K) (tVar i) tNoPart (tPart (tC (.int (k : Int))))) (l.take k) := fun H1 s Q q => by
  have hc : HT.sIx (bV l).length (bV l).length (some (k : Int)) = min k l.length := by
    show (if (k : Int) < 0 then ((k : Int) + ((bV l).length : Int)).toNat else min (k : Int).toNat (bV l).length) = _
    rw [if_neg (by omega), bV_len]
    omega
  have hcut : cutV (bV l) none (some (k : Int)) = bV (l.take k) := by
    unfold cutV
    rw [HT.sIx_none, hc, List.drop_zero, Nat.sub_zero]
    unfold bV
    rw [← List.map_take, ← List.take_eq_take_min]
  refine ⟨_, e, _, rfl, p, _, rfl, .inl (.inl (s _ _ hp)), fun h => ?_, fun _ p2 np2 => ?_⟩
  · have h2 := h.2
    rw [hc, bV_len] at h2
    rw [List.take_of_length_le (by omega)] at q
    exact q p H1 (fun _ _ h => h) (s _ _ hp)
  · refine q p2 _ (Same.new np2) ?_
    rw [upd_same]
    exact congrArg (fun z => some (HO.tup z)) hcut
/-- t[:-1] -/
theorem gd_but {i : Nat} {p : Addr} {x : Nat} (e : σ[i]? = some (some (.ref p))) (hp : H p = some (.tup (bV (l ++ [x])))) : Gd σ H (tSl (rSlA K) (tVar i) tNoPart (tPart (tUn (rU fun i => .int (-i)) (tC (.int 1))))) l := fun H1 s Q q => by
  have hc : HT.sIx (bV (l ++ [x])).length (bV (l ++ [x])).length (some (-1)) = l.length := by
    show (if (-1 : Int) < 0 then ((-1 : Int) + ((bV (l ++ [x])).length : Int)).toNat else min (-1 : Int).toNat (bV (l ++ [x])).length) = _
    rw [if_pos (by decide), bV_len, List.length_append, List.length_singleton]
    omega
  have hcut : cutV (bV (l ++ [x])) none (some (-1)) = bV l := by
    unfold cutV
    rw [HT.sIx_none, hc, List.drop_zero, Nat.sub_zero]
    unfold bV
    rw [← List.map_take, List.take_left' rfl]
  refine ⟨_, e, _, rfl, _, rfl, p, _, rfl, .inl (.inl (s _ _ hp)), fun h => ?_, fun _ p2 np2 => ?_⟩
  · have h2 : HT.sIx (bV (l ++ [x])).length (bV (l ++ [x])).length (some (-1)) = _ := h.2
    rw [hc, bV_len, List.length_append, List.length_singleton] at h2
    omega
  · refine q p2 _ (Same.new np2) ?_
    rw [upd_same]
    exact congrArg (fun z => some (HO.tup z)) hcut
theorem gdl_nil : GdL σ H tNil [] := fun H1 s Q q => q [] H1 (fun _ _ h => h) True.intro
theorem gdl_cons {ta : TA} {ls : List (List Nat)} (h : Gd σ H t1 l) (g : GdL σ H ta ls) : GdL σ H (tCons t1 ta) (l :: ls) := fun H1 s Q q => by
  refine h H1 s _ fun p H2 s2 hp => ?_
  refine g H2 (s.trans s2) _ fun ps H3 s3 hps => ?_
  exact q (p :: ps) H3 (s2.trans s3) ⟨s3 _ _ hp, hps⟩
theorem tCons_of {t : TE} {ta : TA} {Q : List V → Hp → Prop} (h : t σ H fun v H1 => ta σ H1 fun vs H2 => Q (v :: vs) H2) : tCons t ta σ H Q := h
theorem tOp_of {r : R2} {ta tb : TE} {Q : VK} (h : ta σ H fun x H1 => tb σ H1 fun y H2 => r x y H2 Q) : tOp r ta tb σ H Q := h
theorem lst_of {ta : TA} {ls : List (List Nat)} (h : GdL σ H ta ls) (hl : ls.length ≤ 1000) {H1 : Hp} (s : Same H H1) {Q : VK} (q : ∀ (ps : List Addr) (b : Addr) (H' : Hp), Same H1 H' → H1 b = none → Tus H' ps ls → H' b = some (.lst (ps.map V.ref)) → Q (.ref b) H') : tLst ta σ H1 Q := by
  refine h H1 s _ fun ps H2 s2 hps => ⟨?_, fun b nb => ?_⟩
  · rw [List.length_map, Tus.len hps]
    exact Nat.le_trans hl (by decide)
  · have s3 : Same H2 (upd H2 b (.lst (ps.map V.ref))) := Same.new nb
    exact q ps b _ (s2.trans s3) (s2.free nb) (Tus.same s3 hps) upd_same
end
/-! ### steps of readings -/
theorem set_nx {i : Nat} {v : V} {σ : St} {H : Hp} {t : TS} {D D' : Ends} (h : t D (σ.set i (some v)) H) : gName i v σ H { nx := t D, rt := D'.rt, bk := D'.bk, ct := D'.ct : Ends }.nx := h
theorem seq_asg {te : TE} {g : TG} {u : TS} {D : Ends} {σ : St} {H : Hp} (R : V → Hp → Prop) (h : ∀ Q' : VK, (∀ v H', R v H' → Q' v H') → te σ H Q') (k : ∀ v H', R v H' → g v σ H' fun σ' H'' => u D σ' H'') : tSeq (tAsg te g) u D σ H := h _ k
theorem seq_par {i j : Nat} {ta : TA} {u : TS} {D : Ends} {σ : St} {H : Hp} (R : V → V → Hp → Prop) (h : ∀ Q' : List V → Hp → Prop, (∀ v w H', R v w H' → Q' [v, w] H') → ta σ H Q') (k : ∀ v w H', R v w H' → u D ((σ.set i (some v)).set j (some w)) H') : tSeq (tPar i j ta) u D σ H := h _ fun v w H' r => ⟨v, w, rfl, k v w H' r⟩
def Ck (K : PySem.W.Frag) (n : Nat) (G : Bool → Hp → Prop) (v w : V) (H : Hp) : Prop := spAlike K n [v, w] H (fun x H3 => ∃ k, x = .bl k ∧ G k H3) (fun _ _ _ => False)
theorem ck_same {K : PySem.W.Frag} {n : Nat} {G : Bool → Hp → Prop} {v w : V} {H : Hp} {d : PyData} (h1 : Dp K H v d) (h2 : Dp K H w d) (p1 : Pl 20 d) (p2 : Pl n d) (g : ∀ H3, Same H H3 → G true H3) : Ck K n G v w H := by
  refine ⟨v, w, d, d, rfl, h1, h2, p1, p2, fun b H' hb s => ⟨b, rfl, ?_⟩⟩
  have hbt : b = true := hb.mpr rfl
  subst hbt
  exact g H' s
theorem chk_of {K : PySem.W.Frag} {n : Nat} {te1 te2 : TE} {no u : TS} {D : Ends} {σ : St} {H : Hp} (h : te1 σ H fun v H1 => te2 σ H1 fun w H2 => Ck K n (fun k H3 => if (!k) = true then no { D with nx := u D } σ H3 else u D σ H3) v w H2) :
    tSeq (tIfS (tNot (tB (tCall (spAlike K n) [] E0 (tCons te1 (tCons te2 tNil))))) no tNext) u D σ H := h
theorem chk_end {K : PySem.W.Frag} {n : Nat} {te1 te2 : TE} {no : TS} {D : Ends} {σ : St} {H : Hp} (h : te1 σ H fun v H1 => te2 σ H1 fun w H2 => Ck K n (fun k H3 => if (!k) = true then no D σ H3 else D.nx σ H3) v w H2) :
    tIfS (tNot (tB (tCall (spAlike K n) [] E0 (tCons te1 (tCons te2 tNil))))) no tNext D σ H := h
theorem tCallS_of {sp : Sp} {E : St → XK} {t : TA} {σ : St} {H : Hp} {Q : VK} (h : t σ H fun vs H1 => sp vs H1 Q (E σ)) : tCallS sp E t σ H Q := h
theorem tVar_of {i : Nat} {v : V} {σ : St} {H : Hp} {Q : VK} (e : σ[i]? = some (some v)) (h : Q v H) : tVar i σ H Q := ⟨v, e, h⟩
def ForR (J : It) (g : TG) (tb : TS) (D : Ends) (σ : St) (H1 : Hp) : Prop := ∃ W : Nat → Nat → St → Hp → Prop, (∃ m, W 0 m σ H1) ∧ ∀ i m σ H, W i m σ H →
  (J.stop i H ∧ D.nx σ H) ∨ (J.go i H ∧ ∃ N : St → Hp → Prop, (∀ σ' H', N σ' H' → ∃ m', m' < m ∧ W (i + 1) m' σ' H') ∧ ∀ x H', J.yld i H x H' → g x σ H' fun σ2 H2 => tb { D with nx := N, ct := N, bk := D.nx } σ2 H2)
theorem for_of {K : PySem.W.Frag} {te : TE} {g : TG} {tb u : TS} {D : Ends} {σ : St} {H : Hp} {i : Nat} {v : V} (h : te (σ.set i (some v)) H fun x H1 => ∃ a, x = .ref a ∧ (∃ xs, SqL K H1 a xs) ∧ ForR (Itl K a) g tb { D with nx := u D } (σ.set i (some v)) H1) :
    gName i v σ H fun σ' H'' => tSeq (tFor (iList K te) g tb) u D σ' H'' := h
theorem at_last (l : List Nat) (x : Nat) : atI (bV (l ++ [x])) (-1) = some (.int (x : Int)) := by
  have e : ixN (l ++ [x]).length (-1) = some l.length := by
    unfold ixN
    rw [List.length_append, List.length_singleton, if_neg (by omega), if_pos (by omega)]
    congr 1
    omega
  unfold atI
  rw [bV_len, e]
  show (bV (l ++ [x]))[l.length]? = _
  refine bV_at ?_
  rw [List.getElem?_append_right (Nat.le_refl _), Nat.sub_self]
  rfl
theorem tCall_of {sp : Sp} {dvs : List V} {E : XK} {t : TA} {σ : St} {H : Hp} {Q : VK} (h : t σ H fun vs H1 => sp (vs ++ dvs) H1 Q E) : tCall sp dvs E t σ H Q := h
theorem gd_vv {σ : St} {H : Hp} {i j a b : Nat} {x y : Int} (e1 : σ[i]? = some (some (.int x))) (e2 : σ[j]? = some (some (.int y))) (h1 : x = (a : Int)) (h2 : y = (b : Int)) : Gd σ H (tTup (tCons (tVar i) (tCons (tVar j) tNil))) [a, b] := fun H1 s Q q => ⟨_, e1, _, e2, (by show 2 ≤ sizeLine; decide), fun p hp => q p _ (Same.new hp) (by rw [upd_same, h1, h2]; rfl)⟩
/-! ### the law -/
abbrev slaw : Stmt := top 61
abbrev nlaw : List Str := ["script", "row", "steps", "lines", "bad", "fine", "at", "some", "due", "told", "error", "rows", "text", "found", "value", "many", "step"]
abbrev plaw : List Str := ["script"]
theorem sclaw : FnScope nlaw plaw (defScope slaw) := ⟨rfl, rfl, rfl, by decide +kernel, rfl, by decide +kernel, by decide +kernel⟩
def spLaw (K : PySem.W.Frag) : Sp := fun vs H Q _ => ∃ (a : Addr) (ns : List Int), vs = [.ref a] ∧ SqL K H a (ns.map V.int) ∧ ns.length ≤ 63 ∧ ∀ H', Q (.bl true) H'
structure ErU (K : PySem.W.Frag) (mg : Str → Option Value) (CE CL CS : Addr) : Prop where
  g : mg "StoreError" = some (.ref CE)
  eL : PySem.W.exmOne K (.ref CL) (.ref CE) = some true
  cL : ExcC K CL
  eS : PySem.W.exmOne K (.ref CS) (.ref CE) = some true
  cS : ExcC K CS
theorem kit_self {K : PySem.W.Frag} {C : Addr} : PySem.W.kitOne K (.ref C) (.ref C) = some true := by
  unfold PySem.W.kitOne
  rw [if_pos (by simp)]
def t_s (K : PySem.W.Frag) (CL : Addr) : Addr → Value → Option Addr → TS := fun a cls d => tAsg (tIf (tB (tCB (rIsX K a cls d) (tCons (tVar 10) (tCons (tC (.ref CL)) tNil)))) (tByWi CL a cls d (tVar 10)) (tC (.str "other"))) (gName 9)
def tJn (K : PySem.W.Frag) (te : TE) : TE := tM1 (fun x xs H Q => ∃ a p, ∃ ys : List Str, x = .str a ∧ xs = [.ref p] ∧ (SqL K H p (ys.map V.str) ∨ SqT K H p (ys.map V.str)) ∧ (ys.map (·.length)).sum + ys.length * a.length ≤ 16777216 ∧ Q (.str (Txt.join a ys)) H) (tC (.str "\n")) te
def t_b1 (K : PySem.W.Frag) (CL : Addr) : WX → TS := fun W => tDrop (tCallS (spRS K CL) (WE W) (tCons (tJn K (tOp rCat (tOp rCat (tSl (rSlL K) (tVar 3) tNoPart (tPart (tVar 6))) (tLst (tCons (tVar 7) tNil))) (tSl (rSlL K) (tVar 3) (tPart (tVar 6)) tNoPart))) tNil))
def t_b2 (K : PySem.W.Frag) (CL : Addr) : WX → TS := fun W => tDrop (tCallS (spRS K CL) (WE W) (tCons (tVar 12) tNil))
def t_b3 (K : PySem.W.Frag) (CS : Addr) : WX → TS := fun W => tDrop (tCallS (spWSc K CS) (WE W) (tCons (tVar 14) tNil))
section
variable {P : Program} {w : World} {K : PySem.W.Frag} {mg : Str → Option Value} {base : Heap} {CE CL CS : Addr}
theorem ok_law {f fSc fLl fT fPk fA fW fR : Addr} {fd fdSc fdLl fdT fdPk fdA fdW fdR : FuncData} (D : Dfn K mg "law" slaw plaw f fd) (B : Bi mg) (ER : ErU K mg CE CL CS) {fI fJ : Addr} (TLn : PySem.WrI.WrTxt P K mg "BadLine" CL fI) (TSt : PySem.WrI.WrTxt P K mg "BadSteps" CS fJ)
    (DSc : Dfn K mg "_law_script" s_law_script p_law_script fSc fdSc) (GSc : FnOk P w K mg base CX0 6 fSc fdSc p_law_script (spScr K))
    (DLl : Dfn K mg "_law_line" s_law_line p_law_line fLl fdLl) (GLl : FnOk P w K mg base CX0 2 fLl fdLl p_law_line (spLLn K))
    (DT : Dfn K mg "_law_taken" s_law_taken p_law_taken fT fdT) (GT : FnOk P w K mg base CX0 1 fT fdT p_law_taken (spTaken K))
    (DPk : Dfn K mg "_law_pick" s_law_pick p_law_pick fPk fdPk) (GPk : FnOk P w K mg base CX0 2 fPk fdPk p_law_pick (spPick K))
    (DA : Dfn K mg "_law_alike" s_law_alike p_law_alike fA fdA) (GA : FnOk P w K mg base CX0 6 fA fdA p_law_alike (spAlike K 4))
    (DW : Dfn K mg "write_script" swrite_script pwrite_script fW fdW) (GW : FnOk P w K mg base (L2.CX P w) 7 fW fdW pwrite_script (spWSc K CS))
    (DR : Dfn K mg "read_script" sread_script pread_script fR fdR) (GR : FnOk P w K mg base (L2.CX P w) 8 fR fdR pread_script (spRS K CL)) :
    FnOk P w K mg base CX0 9 f fd plaw (spLaw K) := by
  have nd := sclaw.nd
  refine D.F.ok sclaw (fun vs H Q E h => ?_) (fun cdv A outer s H vs Q E hr h => ?_)
  · obtain ⟨a, ns, rfl, _⟩ := h
    rfl
  · obtain ⟨sc, ns, rfl, hS, hlen, q⟩ := h
    have hr1 : Room 1 _ := hr.mono (by decide)
    have hr2 : Room 2 _ := hr.mono (by decide)
    have hr6 : Room 6 _ := hr.mono (by decide)
    have hr7 : Room 7 _ := hr.mono (by decide)
    refine ⟨_, (pss_cons (ps_set (i := 1) nd rfl (.inl rfl) (pe_lst (pa_cons (pv 0) (pa_cons pe_int (pa_cons pe_int (pa_cons pe_int pa_nil))))))
      (pss_cons (ps_set (i := 2) nd rfl (.inl rfl) (pe_call GSc hr6 (by rfl) DSc.g DSc.F.kp DSc.b .nil pass0 (pa_cons (pv 1) pa_nil)))
      (pss_cons (ps_setLc (i := 3) (own := [("step", 16)]) (g := gName 16) (tt := tYes) (te := tCall (spLLn K) [] E0 (tCons (tVar 16) tNil)) (by rfl) nd rfl rfl (sw_true rfl rfl rfl (by decide +kernel)) (pi_tup (pv 2)) (blkOk_by (N := nlaw) (sc := defScope slaw) (by decide +kernel)) (fun _ _ _ _ _ => pg_name (i := 16) nd rfl (.inl rfl)) (fun _ _ _ _ _ => pts_nil) (fun _ _ _ _ _ => by exact (pe_call GLl hr2 (by rfl) DLl.g DLl.F.kp DLl.b .nil pass0 (pa_cons (pv 16) pa_nil))))
      (pss_cons (ps_if (pt_not (pt_val (pe_call GA hr6 (by rfl) DA.g DA.F.kp DA.b .nil pass0 (pa_cons (pe_callS GW hr7 (by rfl) DW.g DW.F.kp DW.b (E := WE (fun _ _ _ _ => False)) (fun σ => passAt L2.takes0 σ) (by exact (pa_cons (pv 2) pa_nil))) (pa_cons (pe_join pe_str (pv 3)) pa_nil))))) (pss_one (ps_ret pe_bl)) pss_nil)
      (pss_cons (ps_if (pt_not (pt_val (pe_call GA hr6 (by rfl) DA.g DA.F.kp DA.b .nil pass0 (pa_cons (pe_callS GR hr (by rfl) DR.g DR.F.kp DR.b (E := WE (fun _ _ _ _ => False)) (fun σ => passAt L2.takes0 σ) (by exact (pa_cons (pe_join pe_str (pv 3)) pa_nil))) (pa_cons (pv 2) pa_nil))))) (pss_one (ps_ret pe_bl)) pss_nil)
      (pss_cons (ps_set (i := 4) nd rfl (.inl rfl) (pe_lst (pa_cons pe_str (pa_cons pe_str (pa_cons pe_str (pa_cons pe_str (pa_cons pe_str (pa_cons pe_str (pa_cons pe_str (pa_cons pe_str (pa_cons pe_str (pa_cons pe_str pa_nil))))))))))))
      (pss_cons (ps_set (i := 4) nd rfl (.inl rfl) (pe_op op_cat (pv 4) (pe_lst (pa_cons pe_str (pa_cons pe_str (pa_cons pe_str (pa_cons pe_str (pa_cons pe_str pa_nil))))))))
      (pss_cons (ps_set (i := 4) nd rfl (.inl rfl) (pe_op op_cat (pv 4) (pe_lst (pa_cons pe_str (pa_cons pe_str (pa_cons pe_str (pa_cons pe_str (pa_cons pe_str pa_nil))))))))
      (pss_cons (ps_set (i := 4) nd rfl (.inl rfl) (pe_op op_cat (pv 4) (pe_lst (pa_cons pe_str (pa_cons pe_str (pa_cons pe_str pa_nil))))))
      (pss_cons (ps_set (i := 4) nd rfl (.inl rfl) (pe_op op_cat (pv 4) (pe_lst (pa_cons pe_str (pa_cons pe_str (pa_cons pe_str (pa_cons pe_str (pa_cons pe_str (pa_cons pe_str pa_nil)))))))))
      (pss_cons (ps_set (i := 4) nd rfl (.inl rfl) (pe_op op_cat (pv 4) (pe_lst (pa_cons pe_str (pa_cons pe_str (pa_cons pe_str (pa_cons pe_str pa_nil)))))))
      (pss_cons (ps_set (i := 5) nd rfl (.inl rfl) (pe_lst (pa_cons pe_str (pa_cons pe_str (pa_cons pe_str (pa_cons pe_str (pa_cons pe_str pa_nil)))))))
      (pss_cons (ps_set (i := 5) nd rfl (.inl rfl) (pe_op op_cat (pv 5) (pe_lst (pa_cons pe_str (pa_cons pe_str pa_nil)))))
      (pss_cons (ps_set (i := 6) nd rfl (.inl rfl) (pe_op op_add pe_int (pe_call GT hr1 (by rfl) DT.g DT.F.kp DT.b .nil pass0 (pa_cons (pv 1) (pa_cons (pe_callB call_len_seq (by rfl) B.len PySem.boot_len (pa_cons (pv 3) pa_nil)) pa_nil)))))
      (pss_cons (ps_for PassesOwn.never rfl (pi_list (pe_lst (pa_cons (pe_tup (pa_cons (pe_call GPk hr2 (by rfl) DPk.g DPk.F.kp DPk.b .nil pass0 (pa_cons (pv 1) (pa_cons (pv 4) pa_nil))) (pa_cons (pv 6) pa_nil))) (pa_cons (pe_tup (pa_cons (pe_call GPk hr2 (by rfl) DPk.g DPk.F.kp DPk.b .nil pass0 (pa_cons (pv 1) (pa_cons (pv 4) pa_nil))) (pa_cons (pv 6) pa_nil))) (pa_cons (pe_tup (pa_cons (pe_call GPk hr2 (by rfl) DPk.g DPk.F.kp DPk.b .nil pass0 (pa_cons (pv 1) (pa_cons (pv 5) pa_nil))) (pa_cons pe_non pa_nil))) pa_nil))))) (pg_tup rfl (pgs_cons (pg_name (i := 7) nd rfl (.inl rfl)) (pgs_cons (pg_name (i := 8) nd rfl (.inl rfl)) pgs_nil))) (pss_cons (ps_set (i := 9) nd rfl (.inl rfl) pe_non) (pss_cons (ps_try_as (i := 10) (tb := t_b1 K CL) (ts := t_s K CL) (Wout := fun _ _ _ _ => False) rfl rfl nd rfl rfl ⟨rfl, by decide, Or.inl ER.g⟩ L2.takes0 (fun W pn xe tk _ => pss_one (ps_expr (by exact (pe_callS GR hr (by rfl) DR.g DR.F.kp DR.b (E := WE W) (fun σ => passAt tk σ) (by exact (pa_cons (pe_join pe_str (pe_op op_cat (pe_op op_cat (pe_slice sl_list (pv 3) po_none (po_some (pv 6))) (pe_lst (pa_cons (pv 7) pa_nil))) (pe_slice sl_list (pv 3) (po_some (pv 6)) po_none))) pa_nil)))))) (fun a oe cls d pn hz hf => pss_one (ps_set (i := 9) nd rfl (.inl rfl) (by exact (pe_ifExp (pt_val (pe_callB (call_isX hz hf) (by rfl) B.isinstance (by decide +kernel) (pa_cons (pv 10) (pa_cons (pe_glob (v := .ref CL) rfl TLn.gC rfl) pa_nil)))) (pe_byWi TLn hz hf (pv 10)) pe_str))))) (pss_one (ps_if (pt_not (pt_val (pe_call GA hr6 (by rfl) DA.g DA.F.kp DA.b .nil pass0 (pa_cons (pv 9) (pa_cons (pv 8) pa_nil))))) (pss_one (ps_ret pe_bl)) pss_nil)))))
      (pss_cons (ps_set (i := 11) nd rfl (.inl rfl) (pe_lst (pa_cons (pe_tup (pa_cons pe_str (pa_cons pe_int pa_nil))) (pa_cons (pe_tup (pa_cons pe_str (pa_cons pe_int pa_nil))) (pa_cons (pe_tup (pa_cons pe_str (pa_cons pe_int pa_nil))) (pa_cons (pe_tup (pa_cons pe_str (pa_cons pe_int pa_nil))) (pa_cons (pe_tup (pa_cons pe_str (pa_cons pe_int pa_nil))) (pa_cons (pe_tup (pa_cons pe_str (pa_cons pe_non pa_nil))) pa_nil))))))))
      (pss_cons (ps_set (i := 11) nd rfl (.inl rfl) (pe_op op_cat (pv 11) (pe_lst (pa_cons (pe_tup (pa_cons pe_str (pa_cons pe_int pa_nil))) (pa_cons (pe_tup (pa_cons (pe_op op_add_str pe_str (pe_op SD.op_mulS pe_str pe_int)) (pa_cons pe_non pa_nil))) (pa_cons (pe_tup (pa_cons (pe_op op_add_str pe_str (pe_op SD.op_mulS pe_str pe_int)) (pa_cons pe_int pa_nil))) pa_nil))))))
      (pss_cons (ps_for PassesOwn.never rfl (pi_list (pv 11)) (pg_tup rfl (pgs_cons (pg_name (i := 12) nd rfl (.inl rfl)) (pgs_cons (pg_name (i := 8) nd rfl (.inl rfl)) pgs_nil))) (pss_cons (ps_set (i := 9) nd rfl (.inl rfl) pe_non) (pss_cons (ps_try_as (i := 10) (tb := t_b2 K CL) (ts := t_s K CL) (Wout := fun _ _ _ _ => False) rfl rfl nd rfl rfl ⟨rfl, by decide, Or.inl ER.g⟩ L2.takes0 (fun W pn xe tk _ => pss_one (ps_expr (by exact (pe_callS GR hr (by rfl) DR.g DR.F.kp DR.b (E := WE W) (fun σ => passAt tk σ) (by exact (pa_cons (pv 12) pa_nil)))))) (fun a oe cls d pn hz hf => pss_one (ps_set (i := 9) nd rfl (.inl rfl) (by exact (pe_ifExp (pt_val (pe_callB (call_isX hz hf) (by rfl) B.isinstance (by decide +kernel) (pa_cons (pv 10) (pa_cons (pe_glob (v := .ref CL) rfl TLn.gC rfl) pa_nil)))) (pe_byWi TLn hz hf (pv 10)) pe_str))))) (pss_one (ps_if (pt_not (pt_val (pe_call GA hr6 (by rfl) DA.g DA.F.kp DA.b .nil pass0 (pa_cons (pv 9) (pa_cons (pv 8) pa_nil))))) (pss_one (ps_ret pe_bl)) pss_nil)))))
      (pss_cons (ps_set (i := 13) nd rfl (.inl rfl) (pe_lst pa_nil))
      (pss_cons (ps_set (i := 11) nd rfl (.inl rfl) (pe_lst (pa_cons (pe_slice sl_tupA (pv 2) (po_some pe_int) po_none) (pa_cons (pe_op op_catA (pv 2) (pe_tup (pa_cons (pe_tup (pa_cons pe_str (pa_cons pe_bl pa_nil))) pa_nil))) (pa_cons (pe_op op_catA (pv 2) (pe_tup (pa_cons (pe_tup (pa_cons pe_str pa_nil)) pa_nil))) (pa_cons (pe_op op_catA (pv 2) (pe_slice sl_tupA (pv 2) po_none (po_some pe_int))) (pa_cons (pe_tup pa_nil) (pa_cons (pe_callTy call_list_of (by rfl) B.list (by decide +kernel) (pa_cons (pv 2) pa_nil)) pa_nil))))))))
      (pss_cons (ps_for PassesOwn.never rfl (pi_list (pe_op op_cat (pv 11) (pe_lst (pa_cons (pe_op op_catA (pv 2) (pe_tup (pa_cons (pe_tup (pa_cons pe_str (pa_cons pe_int (pa_cons pe_str pa_nil)))) pa_nil))) (pa_cons (pe_op op_repT (pe_slice sl_tupA (pv 2) po_none (po_some pe_int)) pe_int) pa_nil))))) (pg_name (i := 14) nd rfl (.inl rfl)) (pss_cons (ps_set (i := 9) nd rfl (.inl rfl) pe_non) (pss_cons (ps_try_as (i := 10) (tb := t_b3 K CS) (ts := t_s K CS) (Wout := fun _ _ _ _ => False) rfl rfl nd rfl rfl ⟨rfl, by decide, Or.inl ER.g⟩ L2.takes0 (fun W pn xe tk _ => pss_one (ps_expr (by exact (pe_callS GW hr7 (by rfl) DW.g DW.F.kp DW.b (E := WE W) (fun σ => passAt tk σ) (by exact (pa_cons (pv 14) pa_nil)))))) (fun a oe cls d pn hz hf => pss_one (ps_set (i := 9) nd rfl (.inl rfl) (by exact (pe_ifExp (pt_val (pe_callB (call_isX hz hf) (by rfl) B.isinstance (by decide +kernel) (pa_cons (pv 10) (pa_cons (pe_glob (v := .ref CS) rfl TSt.gC rfl) pa_nil)))) (pe_byWi TSt hz hf (pv 10)) pe_str))))) (pss_one (ps_expr (pe_bm PySem.F.plainAttrs_list PySem.F.slot_list_append PySem.F.type_list_append mt_append (pv 13) (pa_cons (pv 9) pa_nil)))))))
      (pss_cons (ps_set (i := 15) nd rfl (.inl rfl) (pe_callB call_len_seq (by rfl) B.len PySem.boot_len (pa_cons (pv 2) pa_nil)))
      (pss_one (ps_ret (pe_call GA hr6 (by rfl) DA.g DA.F.kp DA.b .nil pass0 (pa_cons (pv 13) (pa_cons (pe_lst (pa_cons (pe_ifExp (pt_cmpR op_gt (pv 15) pe_int (nomark _)) pe_int pe_non) (pa_cons (pv 15) (pa_cons (pv 15) (pa_cons (pv 15) (pa_cons pe_non (pa_cons pe_non (pa_cons (pv 15) (pa_cons pe_non pa_nil))))))))) pa_nil))))))))))))))))))))))))))), ?_⟩
    -- row
    refine ⟨_, rfl, (by show 4 ≤ sizeLine; decide), fun r hr0 => ?_⟩
    have R0 : RowI K (upd H r (.lst [.ref sc, .int 0, .int 10719, .int 0])) r sc ns := RowI.start hS hr0 (by decide) (by decide)
    generalize upd H r (.lst [.ref sc, .int 0, .int 10719, .int 0]) = H0 at R0
    -- steps
    refine ⟨_, rfl, r, sc, ns, rfl, R0, fun v H1 ds R1 k1 scr hv => ?_⟩
    cases hv with
    | @tup sa xs _ ha t =>
    have hv : Dp K H1 (.ref sa) (.tuple ds) := .tup ha t
    have xl := DpAll.len t
    have dl := scr.ln
    have dp := scr.pos
    -- lines
    refine setF ?_
    refine asgFL ?_
    refine ⟨_, rfl, sa, rfl, ⟨_, ha⟩, fun Ll hD => ?_⟩
    refine lc_dat (walk_tup (K := K) (a := sa) (xs := xs)) (K := K) ((ds.map lineD).map fun l => PyData.str (st l)) hD (by rw [List.length_map, List.length_map]; omega) (by omega) (noLs_str _) (fun H' s' => Same.seqT s' ha) ?_ ?_ gName_mono
    · rintro i y H4 H5 e R hi s4 ⟨rfl, hy⟩ hR
      obtain ⟨b, hb, hyb⟩ := dpa_at (DpAll.same s4 _ _ t) hy
      rw [List.getElem?_map, List.getElem?_map, hb] at hi
      have hi := Option.some.inj hi
      subst hi
      have hm := List.mem_of_getElem? hb
      exact ⟨rfl, _, rfl, y, b, rfl, hyb, scr.gs b hm, scr.sm b hm, fun H' s' => hR _ _ s' (.str _)⟩
    rintro H2 ys s2 hd2 hys
    have ey := dpa_str hys
    subst ey
    have R2 := R1.same s2
    have hv2 := Dp.same s2 _ _ hv
    have Lr : Ll ≠ r := R1.new hD
    have ll : (ds.map lineD).length = ds.length := List.length_map ..
    have jsum : (((ds.map lineD).map st).map (·.length)).sum + ((ds.map lineD).map st).length * (Str.ofString "\n").length ≤ 16777216 := by
      rw [sum_st, List.length_map, ll]
      have h1 : (Str.ofString "\n").length = 1 := by decide +kernel
      rw [h1]
      have h2 := wsum_le (ws := ds.map lineD) (n := 4000) fun l hl => by
        obtain ⟨e, he, rfl⟩ := List.mem_map.mp hl
        exact lineD_len (scr.sm e he)
      rw [ll] at h2
      omega
    have tlen : (st (TL.joinL [10] (ds.map lineD))).length ≤ 100000 := by
      rw [st_len]
      have h1 := joinL10_len (ds.map lineD)
      have h2 := wsum_le (ws := ds.map lineD) (n := 4000) fun l hl => by
        obtain ⟨e, he, rfl⟩ := List.mem_map.mp hl
        exact lineD_len (scr.sm e he)
      rw [ll] at h1 h2
      omega
    have ok3 : Ok3 (.tuple ds) := ok3_of (by omega) scr.ok0
    -- write_script
    refine gnE ?_
    refine chk_of ?_
    refine ⟨_, rfl, .ref sa, _, rfl, hv2, ok3, fun _ => ⟨ds, rfl, fun e he => ⟨scr.gs e he, scr.sm e he⟩, fun H3 s3 => ?_⟩, fun e => (by rw [cs_all scr] at e; cases e), fun k e => (by rw [cs_all scr] at e; cases e)⟩
    refine ⟨⟨_, rfl⟩, _, rfl, Str.ofString "\n", Ll, (ds.map lineD).map st, rfl, rfl, .inl (by rw [← wV_eq]; exact SqL.of (s3 _ _ hd2)), jsum, ?_⟩
    rw [join_nl]
    refine ck_same (d := .str (st (TL.joinL [10] (ds.map lineD)))) (.str _) (.str _) (text_pl scr 20) (text_pl scr 4) fun H4 s4 => ?_
    refine iteF ?_
    -- read_script
    have s24 := s3.trans s4
    have hd4 := s24 _ _ hd2
    have hv4 := Dp.same s24 _ _ hv2
    have R4 := R2.same s24
    refine chk_of ?_
    refine ⟨⟨_, rfl⟩, _, rfl, Str.ofString "\n", Ll, (ds.map lineD).map st, rfl, rfl, .inl (by rw [← wV_eq]; exact SqL.of hd4), jsum, ?_⟩
    rw [join_nl]
    refine ⟨_, ds.map lineD, rfl, tlen, split_st (by intro e; have := congrArg List.length e; rw [ll] at this; simp only [List.length_nil] at this; omega) (fun l hl => by
      obtain ⟨e, he, rfl⟩ := List.mem_map.mp hl
      exact gst10 (scr.gs e he)), fun l hl => by
      obtain ⟨e, he, rfl⟩ := List.mem_map.mp hl
      have := lineD_len (scr.sm e he)
      omega, (by omega), fun k e => (by rw [rd_script scr] at e; cases e), fun es e v5 H5 s5 hv5 => ?_⟩
    rw [rd_script scr] at e
    cases e
    refine ⟨_, rfl, ?_⟩
    have s25 := s24.trans s5
    have hv5' := Dp.same s25 _ _ hv2
    refine ck_same hv5 hv5' (pl_up 16 4 scr.pl) scr.pl fun H6 s6 => ?_
    refine iteF ?_
    have s26 := s25.trans s6
    have hd6 := s26 _ _ hd2
    have hv6 := Dp.same s26 _ _ hv2
    have R6 := R2.same s26
    have k6 := (k1.trans (Keep.of s2)).trans (Keep.of s26)
    clear s24 s25 s26 hv5 hv5' hd4 hv4 R4 s3 s4 s5 s6 hys hd2 hv2 R2 t ha
    -- bad, fine
    refine ⟨(by show 10 ≤ sizeLine; decide), fun bd0 nbd0 => ?_⟩
    have zH7 := Same.new (o := .lst [V.str "", .str " ", .str "tick", .str "tick  0", .str "tick 0 ", .str " tick 0", .str "tick 00", .str "tick -1", .str "tick 1048577", .str "ticks 0"]) nbd0
    have cH7 : (upd H6 bd0 (.lst [V.str "", .str " ", .str "tick", .str "tick  0", .str "tick 0 ", .str " tick 0", .str "tick 00", .str "tick -1", .str "tick 1048577", .str "ticks 0"])) bd0 = some (.lst [V.str "", .str " ", .str "tick", .str "tick  0", .str "tick 0 ", .str " tick 0", .str "tick 00", .str "tick -1", .str "tick 1048577", .str "ticks 0"]) := upd_same
    have yH7 := zH7
    generalize upd H6 bd0 (.lst [V.str "", .str " ", .str "tick", .str "tick  0", .str "tick 0 ", .str " tick 0", .str "tick 00", .str "tick -1", .str "tick 1048577", .str "ticks 0"]) = H7 at zH7 cH7 yH7 
    have bdH7 := cH7
    refine setF ?_
    refine asgFL ?_
    refine ⟨_, rfl, (by show 5 ≤ sizeLine; decide), fun bdq1 nbdq1 => ?_⟩
    have zH8 := Same.new (o := .lst [V.str "tick x", .str "flush 0", .str "show 0", .str "show 0 fruit", .str "show 0 ''"]) nbdq1
    have cH8 : (upd H7 bdq1 (.lst [V.str "tick x", .str "flush 0", .str "show 0", .str "show 0 fruit", .str "show 0 ''"])) bdq1 = some (.lst [V.str "tick x", .str "flush 0", .str "show 0", .str "show 0 fruit", .str "show 0 ''"]) := upd_same
    have bdH8 := zH8 _ _ bdH7
    have yH8 := Same.trans yH7 zH8
    generalize upd H7 bdq1 (.lst [V.str "tick x", .str "flush 0", .str "show 0", .str "show 0 fruit", .str "show 0 ''"]) = H8 at zH8 cH8 yH8 bdH8
    refine ⟨bd0, bdq1, _, _, rfl, rfl, bdH8, cH8, (by show 10 + 5 ≤ sizeLine; decide), fun bd1 nbd1 => ?_⟩
    have zH9 := Same.new (o := .lst ([V.str "", .str " ", .str "tick", .str "tick  0", .str "tick 0 ", .str " tick 0", .str "tick 00", .str "tick -1", .str "tick 1048577", .str "ticks 0"] ++ [V.str "tick x", .str "flush 0", .str "show 0", .str "show 0 fruit", .str "show 0 ''"])) nbd1
    have cH9 : (upd H8 bd1 (.lst ([V.str "", .str " ", .str "tick", .str "tick  0", .str "tick 0 ", .str " tick 0", .str "tick 00", .str "tick -1", .str "tick 1048577", .str "ticks 0"] ++ [V.str "tick x", .str "flush 0", .str "show 0", .str "show 0 fruit", .str "show 0 ''"]))) bd1 = some (.lst ([V.str "", .str " ", .str "tick", .str "tick  0", .str "tick 0 ", .str " tick 0", .str "tick 00", .str "tick -1", .str "tick 1048577", .str "ticks 0"] ++ [V.str "tick x", .str "flush 0", .str "show 0", .str "show 0 fruit", .str "show 0 ''"])) := upd_same
    have yH9 := Same.trans yH8 zH9
    generalize upd H8 bd1 (.lst ([V.str "", .str " ", .str "tick", .str "tick  0", .str "tick 0 ", .str " tick 0", .str "tick 00", .str "tick -1", .str "tick 1048577", .str "ticks 0"] ++ [V.str "tick x", .str "flush 0", .str "show 0", .str "show 0 fruit", .str "show 0 ''"])) = H9 at zH9 cH9 yH9 
    have bdH9 : H9 bd1 = some (.lst ([V.str "", .str " ", .str "tick", .str "tick  0", .str "tick 0 ", .str " tick 0", .str "tick 00", .str "tick -1", .str "tick 1048577", .str "ticks 0", .str "tick x", .str "flush 0", .str "show 0", .str "show 0 fruit", .str "show 0 ''"])) := cH9
    refine gnE ?_
    refine asgFL ?_
    refine ⟨_, rfl, (by show 5 ≤ sizeLine; decide), fun bdq2 nbdq2 => ?_⟩
    have zH10 := Same.new (o := .lst [V.str "write 0 'a'", .str "write 0 'a' ##1", .str "write 0 'a' #01", .str "write 0 'a' #-0", .str "write 0 'a' x"]) nbdq2
    have cH10 : (upd H9 bdq2 (.lst [V.str "write 0 'a'", .str "write 0 'a' ##1", .str "write 0 'a' #01", .str "write 0 'a' #-0", .str "write 0 'a' x"])) bdq2 = some (.lst [V.str "write 0 'a'", .str "write 0 'a' ##1", .str "write 0 'a' #01", .str "write 0 'a' #-0", .str "write 0 'a' x"]) := upd_same
    have bdH10 := zH10 _ _ bdH9
    have yH10 := Same.trans yH9 zH10
    generalize upd H9 bdq2 (.lst [V.str "write 0 'a'", .str "write 0 'a' ##1", .str "write 0 'a' #01", .str "write 0 'a' #-0", .str "write 0 'a' x"]) = H10 at zH10 cH10 yH10 bdH10
    refine ⟨bd1, bdq2, _, _, rfl, rfl, bdH10, cH10, (by show 15 + 5 ≤ sizeLine; decide), fun bd2 nbd2 => ?_⟩
    have zH11 := Same.new (o := .lst ([V.str "", .str " ", .str "tick", .str "tick  0", .str "tick 0 ", .str " tick 0", .str "tick 00", .str "tick -1", .str "tick 1048577", .str "ticks 0", .str "tick x", .str "flush 0", .str "show 0", .str "show 0 fruit", .str "show 0 ''"] ++ [V.str "write 0 'a'", .str "write 0 'a' ##1", .str "write 0 'a' #01", .str "write 0 'a' #-0", .str "write 0 'a' x"])) nbd2
    have cH11 : (upd H10 bd2 (.lst ([V.str "", .str " ", .str "tick", .str "tick  0", .str "tick 0 ", .str " tick 0", .str "tick 00", .str "tick -1", .str "tick 1048577", .str "ticks 0", .str "tick x", .str "flush 0", .str "show 0", .str "show 0 fruit", .str "show 0 ''"] ++ [V.str "write 0 'a'", .str "write 0 'a' ##1", .str "write 0 'a' #01", .str "write 0 'a' #-0", .str "write 0 'a' x"]))) bd2 = some (.lst ([V.str "", .str " ", .str "tick", .str "tick  0", .str "tick 0 ", .str " tick 0", .str "tick 00", .str "tick -1", .str "tick 1048577", .str "ticks 0", .str "tick x", .str "flush 0", .str "show 0", .str "show 0 fruit", .str "show 0 ''"] ++ [V.str "write 0 'a'", .str "write 0 'a' ##1", .str "write 0 'a' #01", .str "write 0 'a' #-0", .str "write 0 'a' x"])) := upd_same
    have yH11 := Same.trans yH10 zH11
    generalize upd H10 bd2 (.lst ([V.str "", .str " ", .str "tick", .str "tick  0", .str "tick 0 ", .str " tick 0", .str "tick 00", .str "tick -1", .str "tick 1048577", .str "ticks 0", .str "tick x", .str "flush 0", .str "show 0", .str "show 0 fruit", .str "show 0 ''"] ++ [V.str "write 0 'a'", .str "write 0 'a' ##1", .str "write 0 'a' #01", .str "write 0 'a' #-0", .str "write 0 'a' x"])) = H11 at zH11 cH11 yH11 
    have bdH11 : H11 bd2 = some (.lst ([V.str "", .str " ", .str "tick", .str "tick  0", .str "tick 0 ", .str " tick 0", .str "tick 00", .str "tick -1", .str "tick 1048577", .str "ticks 0", .str "tick x", .str "flush 0", .str "show 0", .str "show 0 fruit", .str "show 0 ''", .str "write 0 'a'", .str "write 0 'a' ##1", .str "write 0 'a' #01", .str "write 0 'a' #-0", .str "write 0 'a' x"])) := cH11
    refine gnE ?_
    refine asgFL ?_
    refine ⟨_, rfl, (by show 3 ≤ sizeLine; decide), fun bdq3 nbdq3 => ?_⟩
    have zH12 := Same.new (o := .lst [V.str "write 0 'a' '", .str "write 0 'a'b' none", .str "write 0 'a' #1099511627777"]) nbdq3
    have cH12 : (upd H11 bdq3 (.lst [V.str "write 0 'a' '", .str "write 0 'a'b' none", .str "write 0 'a' #1099511627777"])) bdq3 = some (.lst [V.str "write 0 'a' '", .str "write 0 'a'b' none", .str "write 0 'a' #1099511627777"]) := upd_same
    have bdH12 := zH12 _ _ bdH11
    have yH12 := Same.trans yH11 zH12
    generalize upd H11 bdq3 (.lst [V.str "write 0 'a' '", .str "write 0 'a'b' none", .str "write 0 'a' #1099511627777"]) = H12 at zH12 cH12 yH12 bdH12
    refine ⟨bd2, bdq3, _, _, rfl, rfl, bdH12, cH12, (by show 20 + 3 ≤ sizeLine; decide), fun bd3 nbd3 => ?_⟩
    have zH13 := Same.new (o := .lst ([V.str "", .str " ", .str "tick", .str "tick  0", .str "tick 0 ", .str " tick 0", .str "tick 00", .str "tick -1", .str "tick 1048577", .str "ticks 0", .str "tick x", .str "flush 0", .str "show 0", .str "show 0 fruit", .str "show 0 ''", .str "write 0 'a'", .str "write 0 'a' ##1", .str "write 0 'a' #01", .str "write 0 'a' #-0", .str "write 0 'a' x"] ++ [V.str "write 0 'a' '", .str "write 0 'a'b' none", .str "write 0 'a' #1099511627777"])) nbd3
    have cH13 : (upd H12 bd3 (.lst ([V.str "", .str " ", .str "tick", .str "tick  0", .str "tick 0 ", .str " tick 0", .str "tick 00", .str "tick -1", .str "tick 1048577", .str "ticks 0", .str "tick x", .str "flush 0", .str "show 0", .str "show 0 fruit", .str "show 0 ''", .str "write 0 'a'", .str "write 0 'a' ##1", .str "write 0 'a' #01", .str "write 0 'a' #-0", .str "write 0 'a' x"] ++ [V.str "write 0 'a' '", .str "write 0 'a'b' none", .str "write 0 'a' #1099511627777"]))) bd3 = some (.lst ([V.str "", .str " ", .str "tick", .str "tick  0", .str "tick 0 ", .str " tick 0", .str "tick 00", .str "tick -1", .str "tick 1048577", .str "ticks 0", .str "tick x", .str "flush 0", .str "show 0", .str "show 0 fruit", .str "show 0 ''", .str "write 0 'a'", .str "write 0 'a' ##1", .str "write 0 'a' #01", .str "write 0 'a' #-0", .str "write 0 'a' x"] ++ [V.str "write 0 'a' '", .str "write 0 'a'b' none", .str "write 0 'a' #1099511627777"])) := upd_same
    have yH13 := Same.trans yH12 zH13
    generalize upd H12 bd3 (.lst ([V.str "", .str " ", .str "tick", .str "tick  0", .str "tick 0 ", .str " tick 0", .str "tick 00", .str "tick -1", .str "tick 1048577", .str "ticks 0", .str "tick x", .str "flush 0", .str "show 0", .str "show 0 fruit", .str "show 0 ''", .str "write 0 'a'", .str "write 0 'a' ##1", .str "write 0 'a' #01", .str "write 0 'a' #-0", .str "write 0 'a' x"] ++ [V.str "write 0 'a' '", .str "write 0 'a'b' none", .str "write 0 'a' #1099511627777"])) = H13 at zH13 cH13 yH13 
    have bdH13 : H13 bd3 = some (.lst ([V.str "", .str " ", .str "tick", .str "tick  0", .str "tick 0 ", .str " tick 0", .str "tick 00", .str "tick -1", .str "tick 1048577", .str "ticks 0", .str "tick x", .str "flush 0", .str "show 0", .str "show 0 fruit", .str "show 0 ''", .str "write 0 'a'", .str "write 0 'a' ##1", .str "write 0 'a' #01", .str "write 0 'a' #-0", .str "write 0 'a' x", .str "write 0 'a' '", .str "write 0 'a'b' none", .str "write 0 'a' #1099511627777"])) := cH13
    refine gnE ?_
    refine asgFL ?_
    refine ⟨_, rfl, (by show 6 ≤ sizeLine; decide), fun bdq4 nbdq4 => ?_⟩
    have zH14 := Same.new (o := .lst [V.str "write 0 'a' none none", .str "spoil 0 1", .str "world 2 0-1", .str "cut 0", .str "cut 0 1 2", .str "deliver all"]) nbdq4
    have cH14 : (upd H13 bdq4 (.lst [V.str "write 0 'a' none none", .str "spoil 0 1", .str "world 2 0-1", .str "cut 0", .str "cut 0 1 2", .str "deliver all"])) bdq4 = some (.lst [V.str "write 0 'a' none none", .str "spoil 0 1", .str "world 2 0-1", .str "cut 0", .str "cut 0 1 2", .str "deliver all"]) := upd_same
    have bdH14 := zH14 _ _ bdH13
    have yH14 := Same.trans yH13 zH14
    generalize upd H13 bdq4 (.lst [V.str "write 0 'a' none none", .str "spoil 0 1", .str "world 2 0-1", .str "cut 0", .str "cut 0 1 2", .str "deliver all"]) = H14 at zH14 cH14 yH14 bdH14
    refine ⟨bd3, bdq4, _, _, rfl, rfl, bdH14, cH14, (by show 23 + 6 ≤ sizeLine; decide), fun bd4 nbd4 => ?_⟩
    have zH15 := Same.new (o := .lst ([V.str "", .str " ", .str "tick", .str "tick  0", .str "tick 0 ", .str " tick 0", .str "tick 00", .str "tick -1", .str "tick 1048577", .str "ticks 0", .str "tick x", .str "flush 0", .str "show 0", .str "show 0 fruit", .str "show 0 ''", .str "write 0 'a'", .str "write 0 'a' ##1", .str "write 0 'a' #01", .str "write 0 'a' #-0", .str "write 0 'a' x", .str "write 0 'a' '", .str "write 0 'a'b' none", .str "write 0 'a' #1099511627777"] ++ [V.str "write 0 'a' none none", .str "spoil 0 1", .str "world 2 0-1", .str "cut 0", .str "cut 0 1 2", .str "deliver all"])) nbd4
    have cH15 : (upd H14 bd4 (.lst ([V.str "", .str " ", .str "tick", .str "tick  0", .str "tick 0 ", .str " tick 0", .str "tick 00", .str "tick -1", .str "tick 1048577", .str "ticks 0", .str "tick x", .str "flush 0", .str "show 0", .str "show 0 fruit", .str "show 0 ''", .str "write 0 'a'", .str "write 0 'a' ##1", .str "write 0 'a' #01", .str "write 0 'a' #-0", .str "write 0 'a' x", .str "write 0 'a' '", .str "write 0 'a'b' none", .str "write 0 'a' #1099511627777"] ++ [V.str "write 0 'a' none none", .str "spoil 0 1", .str "world 2 0-1", .str "cut 0", .str "cut 0 1 2", .str "deliver all"]))) bd4 = some (.lst ([V.str "", .str " ", .str "tick", .str "tick  0", .str "tick 0 ", .str " tick 0", .str "tick 00", .str "tick -1", .str "tick 1048577", .str "ticks 0", .str "tick x", .str "flush 0", .str "show 0", .str "show 0 fruit", .str "show 0 ''", .str "write 0 'a'", .str "write 0 'a' ##1", .str "write 0 'a' #01", .str "write 0 'a' #-0", .str "write 0 'a' x", .str "write 0 'a' '", .str "write 0 'a'b' none", .str "write 0 'a' #1099511627777"] ++ [V.str "write 0 'a' none none", .str "spoil 0 1", .str "world 2 0-1", .str "cut 0", .str "cut 0 1 2", .str "deliver all"])) := upd_same
    have yH15 := Same.trans yH14 zH15
    generalize upd H14 bd4 (.lst ([V.str "", .str " ", .str "tick", .str "tick  0", .str "tick 0 ", .str " tick 0", .str "tick 00", .str "tick -1", .str "tick 1048577", .str "ticks 0", .str "tick x", .str "flush 0", .str "show 0", .str "show 0 fruit", .str "show 0 ''", .str "write 0 'a'", .str "write 0 'a' ##1", .str "write 0 'a' #01", .str "write 0 'a' #-0", .str "write 0 'a' x", .str "write 0 'a' '", .str "write 0 'a'b' none", .str "write 0 'a' #1099511627777"] ++ [V.str "write 0 'a' none none", .str "spoil 0 1", .str "world 2 0-1", .str "cut 0", .str "cut 0 1 2", .str "deliver all"])) = H15 at zH15 cH15 yH15 
    have bdH15 : H15 bd4 = some (.lst ([V.str "", .str " ", .str "tick", .str "tick  0", .str "tick 0 ", .str " tick 0", .str "tick 00", .str "tick -1", .str "tick 1048577", .str "ticks 0", .str "tick x", .str "flush 0", .str "show 0", .str "show 0 fruit", .str "show 0 ''", .str "write 0 'a'", .str "write 0 'a' ##1", .str "write 0 'a' #01", .str "write 0 'a' #-0", .str "write 0 'a' x", .str "write 0 'a' '", .str "write 0 'a'b' none", .str "write 0 'a' #1099511627777", .str "write 0 'a' none none", .str "spoil 0 1", .str "world 2 0-1", .str "cut 0", .str "cut 0 1 2", .str "deliver all"])) := cH15
    refine gnE ?_
    refine asgFL ?_
    refine ⟨_, rfl, (by show 4 ≤ sizeLine; decide), fun bdq5 nbdq5 => ?_⟩
    have zH16 := Same.new (o := .lst [V.str "show 0 'a~'", .str "write 0 'a' '~'", .str "show 'a'", .str "alike 1"]) nbdq5
    have cH16 : (upd H15 bdq5 (.lst [V.str "show 0 'a~'", .str "write 0 'a' '~'", .str "show 'a'", .str "alike 1"])) bdq5 = some (.lst [V.str "show 0 'a~'", .str "write 0 'a' '~'", .str "show 'a'", .str "alike 1"]) := upd_same
    have bdH16 := zH16 _ _ bdH15
    have yH16 := Same.trans yH15 zH16
    generalize upd H15 bdq5 (.lst [V.str "show 0 'a~'", .str "write 0 'a' '~'", .str "show 'a'", .str "alike 1"]) = H16 at zH16 cH16 yH16 bdH16
    refine ⟨bd4, bdq5, _, _, rfl, rfl, bdH16, cH16, (by show 29 + 4 ≤ sizeLine; decide), fun bd5 nbd5 => ?_⟩
    have zH17 := Same.new (o := .lst ([V.str "", .str " ", .str "tick", .str "tick  0", .str "tick 0 ", .str " tick 0", .str "tick 00", .str "tick -1", .str "tick 1048577", .str "ticks 0", .str "tick x", .str "flush 0", .str "show 0", .str "show 0 fruit", .str "show 0 ''", .str "write 0 'a'", .str "write 0 'a' ##1", .str "write 0 'a' #01", .str "write 0 'a' #-0", .str "write 0 'a' x", .str "write 0 'a' '", .str "write 0 'a'b' none", .str "write 0 'a' #1099511627777", .str "write 0 'a' none none", .str "spoil 0 1", .str "world 2 0-1", .str "cut 0", .str "cut 0 1 2", .str "deliver all"] ++ [V.str "show 0 'a~'", .str "write 0 'a' '~'", .str "show 'a'", .str "alike 1"])) nbd5
    have cH17 : (upd H16 bd5 (.lst ([V.str "", .str " ", .str "tick", .str "tick  0", .str "tick 0 ", .str " tick 0", .str "tick 00", .str "tick -1", .str "tick 1048577", .str "ticks 0", .str "tick x", .str "flush 0", .str "show 0", .str "show 0 fruit", .str "show 0 ''", .str "write 0 'a'", .str "write 0 'a' ##1", .str "write 0 'a' #01", .str "write 0 'a' #-0", .str "write 0 'a' x", .str "write 0 'a' '", .str "write 0 'a'b' none", .str "write 0 'a' #1099511627777", .str "write 0 'a' none none", .str "spoil 0 1", .str "world 2 0-1", .str "cut 0", .str "cut 0 1 2", .str "deliver all"] ++ [V.str "show 0 'a~'", .str "write 0 'a' '~'", .str "show 'a'", .str "alike 1"]))) bd5 = some (.lst ([V.str "", .str " ", .str "tick", .str "tick  0", .str "tick 0 ", .str " tick 0", .str "tick 00", .str "tick -1", .str "tick 1048577", .str "ticks 0", .str "tick x", .str "flush 0", .str "show 0", .str "show 0 fruit", .str "show 0 ''", .str "write 0 'a'", .str "write 0 'a' ##1", .str "write 0 'a' #01", .str "write 0 'a' #-0", .str "write 0 'a' x", .str "write 0 'a' '", .str "write 0 'a'b' none", .str "write 0 'a' #1099511627777", .str "write 0 'a' none none", .str "spoil 0 1", .str "world 2 0-1", .str "cut 0", .str "cut 0 1 2", .str "deliver all"] ++ [V.str "show 0 'a~'", .str "write 0 'a' '~'", .str "show 'a'", .str "alike 1"])) := upd_same
    have yH17 := Same.trans yH16 zH17
    generalize upd H16 bd5 (.lst ([V.str "", .str " ", .str "tick", .str "tick  0", .str "tick 0 ", .str " tick 0", .str "tick 00", .str "tick -1", .str "tick 1048577", .str "ticks 0", .str "tick x", .str "flush 0", .str "show 0", .str "show 0 fruit", .str "show 0 ''", .str "write 0 'a'", .str "write 0 'a' ##1", .str "write 0 'a' #01", .str "write 0 'a' #-0", .str "write 0 'a' x", .str "write 0 'a' '", .str "write 0 'a'b' none", .str "write 0 'a' #1099511627777", .str "write 0 'a' none none", .str "spoil 0 1", .str "world 2 0-1", .str "cut 0", .str "cut 0 1 2", .str "deliver all"] ++ [V.str "show 0 'a~'", .str "write 0 'a' '~'", .str "show 'a'", .str "alike 1"])) = H17 at zH17 cH17 yH17 
    have bdH17 : H17 bd5 = some (.lst ([V.str "", .str " ", .str "tick", .str "tick  0", .str "tick 0 ", .str " tick 0", .str "tick 00", .str "tick -1", .str "tick 1048577", .str "ticks 0", .str "tick x", .str "flush 0", .str "show 0", .str "show 0 fruit", .str "show 0 ''", .str "write 0 'a'", .str "write 0 'a' ##1", .str "write 0 'a' #01", .str "write 0 'a' #-0", .str "write 0 'a' x", .str "write 0 'a' '", .str "write 0 'a'b' none", .str "write 0 'a' #1099511627777", .str "write 0 'a' none none", .str "spoil 0 1", .str "world 2 0-1", .str "cut 0", .str "cut 0 1 2", .str "deliver all", .str "show 0 'a~'", .str "write 0 'a' '~'", .str "show 'a'", .str "alike 1"])) := cH17
    refine gnE ?_
    refine asgFL ?_
    refine ⟨(by show 5 ≤ sizeLine; decide), fun fn0 nfn0 => ?_⟩
    have zH18 := Same.new (o := .lst [V.str "write 0 'a' ''", .str "write 0 ' ' #-1", .str "write 0 'a b' 'c  d'", .str "spoil 0 0 256", .str "tick 1048576"]) nfn0
    have cH18 : (upd H17 fn0 (.lst [V.str "write 0 'a' ''", .str "write 0 ' ' #-1", .str "write 0 'a b' 'c  d'", .str "spoil 0 0 256", .str "tick 1048576"])) fn0 = some (.lst [V.str "write 0 'a' ''", .str "write 0 ' ' #-1", .str "write 0 'a b' 'c  d'", .str "spoil 0 0 256", .str "tick 1048576"]) := upd_same
    have bdH18 := zH18 _ _ bdH17
    have yH18 := Same.trans yH17 zH18
    generalize upd H17 fn0 (.lst [V.str "write 0 'a' ''", .str "write 0 ' ' #-1", .str "write 0 'a b' 'c  d'", .str "spoil 0 0 256", .str "tick 1048576"]) = H18 at zH18 cH18 yH18 bdH18
    have fnH18 := cH18
    refine gnE ?_
    refine asgFL ?_
    refine ⟨_, rfl, (by show 2 ≤ sizeLine; decide), fun fnq1 nfnq1 => ?_⟩
    have zH19 := Same.new (o := .lst [V.str "write 9 'a' #1099511627776", .str "settle 2000"]) nfnq1
    have cH19 : (upd H18 fnq1 (.lst [V.str "write 9 'a' #1099511627776", .str "settle 2000"])) fnq1 = some (.lst [V.str "write 9 'a' #1099511627776", .str "settle 2000"]) := upd_same
    have bdH19 := zH19 _ _ bdH18
    have fnH19 := zH19 _ _ fnH18
    have yH19 := Same.trans yH18 zH19
    generalize upd H18 fnq1 (.lst [V.str "write 9 'a' #1099511627776", .str "settle 2000"]) = H19 at zH19 cH19 yH19 bdH19 fnH19
    refine ⟨fn0, fnq1, _, _, rfl, rfl, fnH19, cH19, (by show 5 + 2 ≤ sizeLine; decide), fun fn1 nfn1 => ?_⟩
    have zH20 := Same.new (o := .lst ([V.str "write 0 'a' ''", .str "write 0 ' ' #-1", .str "write 0 'a b' 'c  d'", .str "spoil 0 0 256", .str "tick 1048576"] ++ [V.str "write 9 'a' #1099511627776", .str "settle 2000"])) nfn1
    have cH20 : (upd H19 fn1 (.lst ([V.str "write 0 'a' ''", .str "write 0 ' ' #-1", .str "write 0 'a b' 'c  d'", .str "spoil 0 0 256", .str "tick 1048576"] ++ [V.str "write 9 'a' #1099511627776", .str "settle 2000"]))) fn1 = some (.lst ([V.str "write 0 'a' ''", .str "write 0 ' ' #-1", .str "write 0 'a b' 'c  d'", .str "spoil 0 0 256", .str "tick 1048576"] ++ [V.str "write 9 'a' #1099511627776", .str "settle 2000"])) := upd_same
    have bdH20 := zH20 _ _ bdH19
    have yH20 := Same.trans yH19 zH20
    generalize upd H19 fn1 (.lst ([V.str "write 0 'a' ''", .str "write 0 ' ' #-1", .str "write 0 'a b' 'c  d'", .str "spoil 0 0 256", .str "tick 1048576"] ++ [V.str "write 9 'a' #1099511627776", .str "settle 2000"])) = H20 at zH20 cH20 yH20 bdH20
    have fnH20 : H20 fn1 = some (.lst ([V.str "write 0 'a' ''", .str "write 0 ' ' #-1", .str "write 0 'a b' 'c  d'", .str "spoil 0 0 256", .str "tick 1048576", .str "write 9 'a' #1099511627776", .str "settle 2000"])) := cH20
    refine gnE ?_
    have hbd : H20 bd5 = some (.lst (badL.map V.str)) := bdH20
    have hfn : H20 fn1 = some (.lst (fineL.map V.str)) := fnH20
    have hdH20 := yH20 _ _ hd6
    have hvH20 := Dp.same yH20 _ _ hv6
    have RH20 := R6.same yH20
    have kH20 := k6.trans (Keep.of yH20)
    -- at
    clear yH7 yH8 yH9 yH10 yH11 yH12 yH13 yH14 yH15 yH16 yH17 yH18 yH19 cH7 cH8 cH9 cH10 cH11 cH12 cH13 cH14 cH15 cH16 cH17 cH18 cH19 cH20 zH7 zH8 zH9 zH10 zH11 zH12 zH13 zH14 zH15 zH16 zH17 zH18 zH19 zH20
    have nbd : bd5 ≠ r := fun e => by
      obtain ⟨⟨n, x, y, h2, _⟩, _⟩ := RH20
      rw [e, h2] at hbd
      have := HO.lst.inj (Option.some.inj hbd)
      exact absurd (show (4 : Nat) = 33 from congrArg List.length this) (by decide)
    have nfn : fn1 ≠ r := fun e => by
      obtain ⟨⟨n, x, y, h2, _⟩, _⟩ := RH20
      rw [e, h2] at hfn
      have := HO.lst.inj (Option.some.inj hfn)
      exact absurd (show (4 : Nat) = 7 from congrArg List.length this) (by decide)
    have wl : (wV (ds.map lineD)).length = ds.length := by unfold wV; rw [List.length_map, ll]
    refine asgFL ?_
    refine ⟨_, rfl, _, rfl, Ll, _, rfl, .inl (SqL.of hdH20), r, sc, ns, _, rfl, RH20, by rw [wl]; omega, by rw [wl]; omega, fun v6 H21 p0 p1 R21 k21 => ?_⟩
    rw [wl] at p1
    obtain ⟨a0, rfl⟩ := Int.eq_ofNat_of_zero_le p0
    refine ⟨_, _, rfl, rfl, ?_⟩
    rw [show ((fun i j => V.int (i + j)) (1 : Int) (a0 : Int)) = V.int ((a0 + 1 : Nat) : Int) from congrArg V.int (by omega)]
    refine gnE ?_
    have hbd21 := k21 _ _ nbd hbd
    have hfn21 := k21 _ _ nfn hfn
    have hd21 := k21 _ _ Lr hdH20
    have hv21 := dp_tkl (TKl.row RH20 k21) _ _ (show noL (.tuple ds) = true by unfold noL; exact scr.nl) hvH20
    have kk21 := kH20.trans k21
    clear hbd hfn hdH20 hvH20 k21 RH20 kH20
    -- the lines near
    refine ⟨_, rfl, _, rfl, r, sc, ns, bd5, _, rfl, R21, SqL.of hbd21, nbd, by decide, by decide, fun u1 H22 hu1 R22 k22 => ?_⟩
    obtain ⟨b1, hb1, rfl⟩ := List.mem_map.mp hu1
    refine ⟨_, rfl, (by show 2 ≤ sizeLine; decide), fun t1 nt1 => ?_⟩
    have z1 := Same.new (o := .tup [.str b1, .int ((a0 + 1 : Nat) : Int)]) nt1
    have ht1 : (upd H22 t1 (.tup [.str b1, .int ((a0 + 1 : Nat) : Int)])) t1 = some (.tup [.str b1, .int ((a0 + 1 : Nat) : Int)]) := upd_same
    have R23 := R22.same z1
    have k23 := k22.trans (Keep.of z1)
    generalize upd H22 t1 (.tup [.str b1, .int ((a0 + 1 : Nat) : Int)]) = H23 at z1 ht1 R23 k23
    have t1r : t1 ≠ r := R22.new nt1
    refine ⟨_, rfl, _, rfl, r, sc, ns, bd5, _, rfl, R23, SqL.of (k23 _ _ nbd hbd21), nbd, by decide, by decide, fun u2 H24 hu2 R24 k24 => ?_⟩
    obtain ⟨b2, hb2, rfl⟩ := List.mem_map.mp hu2
    refine ⟨_, rfl, (by show 2 ≤ sizeLine; decide), fun t2 nt2 => ?_⟩
    have z2 := Same.new (o := .tup [.str b2, .int ((a0 + 1 : Nat) : Int)]) nt2
    have ht2 : (upd H24 t2 (.tup [.str b2, .int ((a0 + 1 : Nat) : Int)])) t2 = some (.tup [.str b2, .int ((a0 + 1 : Nat) : Int)]) := upd_same
    have R25 := R24.same z2
    have k25 := k24.trans (Keep.of z2)
    generalize upd H24 t2 (.tup [.str b2, .int ((a0 + 1 : Nat) : Int)]) = H25 at z2 ht2 R25 k25
    have t2r : t2 ≠ r := R24.new nt2
    refine ⟨_, rfl, _, rfl, r, sc, ns, fn1, _, rfl, R25, SqL.of (k25 _ _ nfn (k23 _ _ nfn hfn21)), nfn, by decide, by decide, fun u3 H26 hu3 R26 k26 => ?_⟩
    obtain ⟨b3, hb3, rfl⟩ := List.mem_map.mp hu3
    refine ⟨(by show 2 ≤ sizeLine; decide), fun t3 nt3 => ?_⟩
    have z3 := Same.new (o := .tup [.str b3, .non]) nt3
    have ht3 : (upd H26 t3 (.tup [.str b3, .non])) t3 = some (.tup [.str b3, .non]) := upd_same
    have R27 := R26.same z3
    have k27 := k26.trans (Keep.of z3)
    generalize upd H26 t3 (.tup [.str b3, .non]) = H27 at z3 ht3 R27 k27
    have ht27 := k27 _ _ t2r ht2
    have ht17 := k27 _ _ t1r (k25 _ _ t1r ht1)
    have k217 := (k23.trans k25).trans k27
    have hd27 := k217 _ _ Lr hd21
    have hv27 := dp_tkl (TKl.row R21 k217) _ _ (show noL (.tuple ds) = true by unfold noL; exact scr.nl) hv21
    have kk27 := kk21.trans k217
    refine ⟨(by show 3 ≤ sizeLine; decide), fun lw nlw => ?_⟩
    have z4 := Same.new (o := .lst [.ref t1, .ref t2, .ref t3]) nlw
    have hlw : (upd H27 lw (.lst [.ref t1, .ref t2, .ref t3])) lw = some (.lst [.ref t1, .ref t2, .ref t3]) := upd_same
    generalize upd H27 lw (.lst [.ref t1, .ref t2, .ref t3]) = H28 at z4 hlw
    have kk28 := kk27.trans (Keep.of z4)
    have hd28 := z4 _ _ hd27
    have hv28 := Dp.same z4 _ _ hv27
    have hin := fun (b : List Nat) => rd_ins scr (k := a0 + 1) (by omega) (by omega) (b := b)
    have hel : ∀ x, x ∈ [V.ref t1, .ref t2, .ref t3] → ∃ (t : Addr) (b : Str) (o : Option Nat), x = .ref t ∧ H28 t = some (.tup [.str b, vN o]) ∧ 10 ∉ cl b ∧ (cl b).length ≤ 100 ∧ rdE (ins (ds.map lineD) (a0 + 1) (cl b)) = o := by
      intro x hx
      rcases List.mem_cons.mp hx with rfl | hx
      · have hk := bad_ok b1 hb1
        exact ⟨t1, b1, some (a0 + 1), rfl, z4 _ _ ht17, hk.2.1, hk.2.2, (hin _).1 hk.1⟩
      rcases List.mem_cons.mp hx with rfl | hx
      · have hk := bad_ok b2 hb2
        exact ⟨t2, b2, some (a0 + 1), rfl, z4 _ _ ht27, hk.2.1, hk.2.2, (hin _).1 hk.1⟩
      · rw [List.mem_singleton.mp hx]
        obtain ⟨⟨d, hd, hw⟩, h10, h100⟩ := fine_ok b3 hb3
        exact ⟨t3, b3, none, rfl, z4 _ _ ht3, h10, h100, (hin _).2 d hd hw⟩
    clear ht1 ht2 ht3 ht17 ht27 hd27 hd21 hv21 hv27 hbd21 hfn21 z1 z2 z3 z4 k22 k23 k24 k25 k26 k27 k217 R22 R23 R24 R25 R26 hin hb1 hb2 hb3 hu1 hu2 hu3 kk21 kk27 R27
    refine ⟨lw, rfl, ⟨_, SqL.of hlw⟩, ?_⟩
    refine for_list (K := K) (a := lw) (xs := [.ref t1, .ref t2, .ref t3]) (fun j σ Y => ∃ (v7 v8 v9 : Option V), σ = [some (.ref sc), some (.ref r), some (.ref sa), some (.ref Ll), some (.ref bd5), some (.ref fn1), some (.int ((a0 + 1 : Nat) : Int)), v7, v8, v9, none, none, none, none, none, none, none] ∧ Same H28 Y) ⟨none, none, none, rfl, Same.refl _⟩ ?_ ?_ ?_
    · rintro j σ Y hj ⟨_, _, _, _, e⟩
      exact sqL_same e (SqL.of hlw)
    · rintro j x σ Y hy ⟨v7, v8, v9, rfl, eY⟩
      obtain ⟨t, b, o, rfl, htb, h10, h100, hrd⟩ := hel x (List.mem_of_getElem? hy)
      have hdY := eY _ _ hd28
      refine ⟨t, _, rfl, .inl (.inl (eY _ _ htb)), rfl, _, _, rfl, _, _, rfl, rfl, ?_⟩
      refine asgFL ?_
      refine gnE ?_
      refine ⟨⟨_, rfl⟩, _, rfl, ?_⟩
      refine noPx ?_
      refine ⟨_, rfl, _, rfl, Ll, _, rfl, SqL.of hdY, fun p1 np1 => ?_⟩
      have c1 : cutV (wV (ds.map lineD)) none (some ((a0 + 1 : Nat) : Int)) = wV ((ds.map lineD).take (a0 + 1)) := by
        unfold cutV
        rw [HT.sIx_none, HT.sIx_nat, wl, Nat.min_eq_left (by omega), List.drop_zero, Nat.sub_zero]
        unfold wV
        rw [List.map_take]
      rw [c1]
      have y1 := Same.new (o := .lst (wV ((ds.map lineD).take (a0 + 1)))) np1
      have hp1 : (upd Y p1 (.lst (wV ((ds.map lineD).take (a0 + 1))))) p1 = some (.lst (wV ((ds.map lineD).take (a0 + 1)))) := upd_same
      generalize upd Y p1 (.lst (wV ((ds.map lineD).take (a0 + 1)))) = Y1 at y1 hp1
      refine ⟨_, rfl, (by show 1 ≤ sizeLine; decide), fun p2 np2 => ?_⟩
      have y2 := Same.new (o := .lst [V.str b]) np2
      have hp2 : (upd Y1 p2 (.lst [V.str b])) p2 = some (.lst [V.str b]) := upd_same
      have hp12 := y2 _ _ hp1
      generalize upd Y1 p2 (.lst [V.str b]) = Y2 at y2 hp2 hp12
      have l1 : (wV ((ds.map lineD).take (a0 + 1))).length ≤ 21 := by unfold wV; rw [List.length_map, List.length_take, ll]; omega
      refine ⟨p1, p2, _, _, rfl, rfl, hp12, hp2, by rw [sizeLine_eq]; simp only [List.length_cons, List.length_nil]; omega, fun p3 np3 => ?_⟩
      have y3 := Same.new (o := .lst (wV ((ds.map lineD).take (a0 + 1)) ++ [V.str b])) np3
      have hp3 : (upd Y2 p3 (.lst (wV ((ds.map lineD).take (a0 + 1)) ++ [V.str b]))) p3 = some (.lst (wV ((ds.map lineD).take (a0 + 1)) ++ [V.str b])) := upd_same
      have s3 := (y1.trans y2).trans y3
      generalize upd Y2 p3 (.lst (wV ((ds.map lineD).take (a0 + 1)) ++ [V.str b])) = Y3 at y3 hp3 s3
      refine ⟨_, rfl, _, rfl, _, rfl, ?_⟩
      refine noPx ?_
      refine ⟨Ll, _, rfl, SqL.of (s3 _ _ hdY), fun p4 np4 => ?_⟩
      have c2 : cutV (wV (ds.map lineD)) (some ((a0 + 1 : Nat) : Int)) none = wV ((ds.map lineD).drop (a0 + 1)) := by
        unfold cutV
        rw [HT.sIx_none, HT.sIx_nat, wl, Nat.min_eq_left (by omega)]
        unfold wV
        rw [← List.map_drop]
        exact List.take_of_length_le (by rw [List.length_map, List.length_drop, ll]; exact Nat.le_refl _)
      rw [c2]
      have y4 := Same.new (o := .lst (wV ((ds.map lineD).drop (a0 + 1)))) np4
      have hp4 : (upd Y3 p4 (.lst (wV ((ds.map lineD).drop (a0 + 1))))) p4 = some (.lst (wV ((ds.map lineD).drop (a0 + 1)))) := upd_same
      have hp34 := y4 _ _ hp3
      have s4 := s3.trans y4
      generalize upd Y3 p4 (.lst (wV ((ds.map lineD).drop (a0 + 1)))) = Y4 at y4 hp4 hp34 s4
      have l2 : (wV ((ds.map lineD).drop (a0 + 1))).length ≤ 21 := by unfold wV; rw [List.length_map, List.length_drop, ll]; omega
      refine ⟨p3, p4, _, _, rfl, rfl, hp34, hp4, by rw [List.length_append, sizeLine_eq]; simp only [List.length_cons, List.length_nil]; omega, fun p5 np5 => ?_⟩
      have ewv : (wV ((ds.map lineD).take (a0 + 1)) ++ [V.str b]) ++ wV ((ds.map lineD).drop (a0 + 1)) = wV (ins (ds.map lineD) (a0 + 1) (cl b)) := by
        unfold wV ins
        rw [List.map_append, List.map_append, List.map_singleton, st_cl]
      rw [ewv]
      have s5 := s4.trans (Same.new (o := .lst (wV (ins (ds.map lineD) (a0 + 1) (cl b)))) np5)
      have hp5 : (upd Y4 p5 (.lst (wV (ins (ds.map lineD) (a0 + 1) (cl b))))) p5 = some (.lst (wV (ins (ds.map lineD) (a0 + 1) (cl b)))) := upd_same
      generalize upd Y4 p5 (.lst (wV (ins (ds.map lineD) (a0 + 1) (cl b)))) = Y5 at s5 hp5
      have hpl : (ins (ds.map lineD) (a0 + 1) (cl b)).length ≤ 22 := by
        unfold ins
        rw [List.length_append, List.length_append, List.length_take, List.length_drop, ll, List.length_singleton]
        omega
      have hpm : ∀ l, l ∈ ins (ds.map lineD) (a0 + 1) (cl b) → 10 ∉ l ∧ l.length ≤ 4000 := by
        intro l hl
        have hl : l ∈ (ds.map lineD) ∨ l = cl b := by
          unfold ins at hl
          rcases List.mem_append.mp hl with hl | hl
          · rcases List.mem_append.mp hl with hl | hl
            · exact .inl (List.mem_of_mem_take hl)
            · exact .inr (List.mem_singleton.mp hl)
          · exact .inl (List.mem_of_mem_drop hl)
        rcases hl with hl | rfl
        · obtain ⟨e, he, rfl⟩ := List.mem_map.mp hl
          exact ⟨gst10 (scr.gs e he), lineD_len (scr.sm e he)⟩
        · exact ⟨h10, by omega⟩
      have hws := wsum_le fun l hl => (hpm l hl).2
      have hne : ins (ds.map lineD) (a0 + 1) (cl b) ≠ [] := by
        unfold ins
        simp
      generalize ins (ds.map lineD) (a0 + 1) (cl b) = ps at hrd hp5 hpl hpm hws hne
      have hpb : ps.length * 4000 ≤ 22 * 4000 := Nat.mul_le_mul_right _ hpl
      refine ⟨Str.ofString "\n", p5, ps.map st, rfl, rfl, .inl (by rw [← wV_eq]; exact SqL.of hp5), ?_, ?_⟩
      · rw [sum_st, List.length_map]
        have h1 : (Str.ofString "\n").length = 1 := by decide +kernel
        rw [h1]
        omega
      rw [join_nl]
      have htl : (st (TL.joinL [10] ps)).length ≤ 100000 := by
        rw [st_len]
        have := joinL10_len ps
        omega
      unfold rdE at hrd
      refine ⟨_, ps, rfl, htl, split_st hne (fun l hl => (hpm l hl).1), fun l hl => (by have := (hpm l hl).2; omega), (by omega), fun k e dd Y6 s6 hdd => ?_, fun es e v9' Y6 s6 hv9 => ?_⟩
      · rw [e] at hrd
        subst hrd
        refine ⟨true, ER.eL, fun _ ax nax => ?_, fun z => Bool.noConfusion z⟩
        refine ⟨_, rfl, CL, .ref CL, .ref CL, true, rfl, rfl, ER.cL, .inr ⟨dd, _, rfl, hdd⟩, fun u h => h, kit_self, ?_⟩
        refine ⟨_, rfl, ?_⟩
        refine iteT ?_
        refine ⟨_, rfl, rfl, rfl, dd, _, rfl, hdd, ?_⟩
        dsimp only [gName]
        refine chk_end ?_
        refine ⟨_, rfl, _, rfl, ?_⟩
        refine ck_same (d := .int (k : Int)) (.int _) (.int _) True.intro True.intro fun Y7 s7 => ?_
        refine iteF ?_
        exact ⟨_, _, _, rfl, eY.trans ((s5.trans s6).trans s7)⟩
      · rw [e] at hrd
        subst hrd
        dsimp only [gName]
        refine chk_end ?_
        refine ⟨_, rfl, _, rfl, ?_⟩
        refine ck_same (d := .none) .non .non True.intro True.intro fun Y7 s7 => ?_
        refine iteF ?_
        exact ⟨_, _, _, rfl, eY.trans ((s5.trans s6).trans s7)⟩
    · rintro σ Y ⟨v7, v8, v9, rfl, eY⟩
      refine nxE ?_
      have hdY := eY _ _ hd28
      have hvY := Dp.same eY _ _ hv28
      clear hel hlw hd28 hv28
      -- the written texts
      refine asgFL ?_
      refine ⟨(by show 2 ≤ sizeLine; decide), fun q1 nq1 => ?_⟩
      have zX40 := Same.new (o := .tup [.str (Str.ofString ""), .int 0]) nq1
      have cX40 : (upd Y q1 (.tup [.str (Str.ofString ""), .int 0])) q1 = some (.tup [.str (Str.ofString ""), .int 0]) := upd_same
      have eXX40 := zX40
      generalize upd Y q1 (.tup [.str (Str.ofString ""), .int 0]) = X40 at zX40 cX40 eXX40 
      have hq1 := cX40
      refine ⟨(by show 2 ≤ sizeLine; decide), fun q2 nq2 => ?_⟩
      have zX41 := Same.new (o := .tup [.str (Str.ofString "tick 0"), .int 0]) nq2
      have cX41 : (upd X40 q2 (.tup [.str (Str.ofString "tick 0"), .int 0])) q2 = some (.tup [.str (Str.ofString "tick 0"), .int 0]) := upd_same
      have hq1 := zX41 _ _ hq1
      have eXX41 := Same.trans eXX40 zX41
      generalize upd X40 q2 (.tup [.str (Str.ofString "tick 0"), .int 0]) = X41 at zX41 cX41 eXX41 hq1
      have hq2 := cX41
      refine ⟨(by show 2 ≤ sizeLine; decide), fun q3 nq3 => ?_⟩
      have zX42 := Same.new (o := .tup [.str (Str.ofString "world"), .int 0]) nq3
      have cX42 : (upd X41 q3 (.tup [.str (Str.ofString "world"), .int 0])) q3 = some (.tup [.str (Str.ofString "world"), .int 0]) := upd_same
      have hq1 := zX42 _ _ hq1
      have hq2 := zX42 _ _ hq2
      have eXX42 := Same.trans eXX41 zX42
      generalize upd X41 q3 (.tup [.str (Str.ofString "world"), .int 0]) = X42 at zX42 cX42 eXX42 hq1 hq2
      have hq3 := cX42
      refine ⟨(by show 2 ≤ sizeLine; decide), fun q4 nq4 => ?_⟩
      have zX43 := Same.new (o := .tup [.str (Str.ofString "world 2 0-1 1"), .int 0]) nq4
      have cX43 : (upd X42 q4 (.tup [.str (Str.ofString "world 2 0-1 1"), .int 0])) q4 = some (.tup [.str (Str.ofString "world 2 0-1 1"), .int 0]) := upd_same
      have hq1 := zX43 _ _ hq1
      have hq2 := zX43 _ _ hq2
      have hq3 := zX43 _ _ hq3
      have eXX43 := Same.trans eXX42 zX43
      generalize upd X42 q4 (.tup [.str (Str.ofString "world 2 0-1 1"), .int 0]) = X43 at zX43 cX43 eXX43 hq1 hq2 hq3
      have hq4 := cX43
      refine ⟨(by show 2 ≤ sizeLine; decide), fun q5 nq5 => ?_⟩
      have zX44 := Same.new (o := .tup [.str (Str.ofString "world 2 0_1"), .int 0]) nq5
      have cX44 : (upd X43 q5 (.tup [.str (Str.ofString "world 2 0_1"), .int 0])) q5 = some (.tup [.str (Str.ofString "world 2 0_1"), .int 0]) := upd_same
      have hq1 := zX44 _ _ hq1
      have hq2 := zX44 _ _ hq2
      have hq3 := zX44 _ _ hq3
      have hq4 := zX44 _ _ hq4
      have eXX44 := Same.trans eXX43 zX44
      generalize upd X43 q5 (.tup [.str (Str.ofString "world 2 0_1"), .int 0]) = X44 at zX44 cX44 eXX44 hq1 hq2 hq3 hq4
      have hq5 := cX44
      refine ⟨(by show 2 ≤ sizeLine; decide), fun q6 nq6 => ?_⟩
      have zX45 := Same.new (o := .tup [.str (Str.ofString "world 1"), .non]) nq6
      have cX45 : (upd X44 q6 (.tup [.str (Str.ofString "world 1"), .non])) q6 = some (.tup [.str (Str.ofString "world 1"), .non]) := upd_same
      have hq1 := zX45 _ _ hq1
      have hq2 := zX45 _ _ hq2
      have hq3 := zX45 _ _ hq3
      have hq4 := zX45 _ _ hq4
      have hq5 := zX45 _ _ hq5
      have eXX45 := Same.trans eXX44 zX45
      generalize upd X44 q6 (.tup [.str (Str.ofString "world 1"), .non]) = X45 at zX45 cX45 eXX45 hq1 hq2 hq3 hq4 hq5
      have hq6 := cX45
      refine ⟨(by show 6 ≤ sizeLine; decide), fun rw1 nrw1 => ?_⟩
      have zX46 := Same.new (o := .lst [V.ref q1, .ref q2, .ref q3, .ref q4, .ref q5, .ref q6]) nrw1
      have cX46 : (upd X45 rw1 (.lst [V.ref q1, .ref q2, .ref q3, .ref q4, .ref q5, .ref q6])) rw1 = some (.lst [V.ref q1, .ref q2, .ref q3, .ref q4, .ref q5, .ref q6]) := upd_same
      have hq1 := zX46 _ _ hq1
      have hq2 := zX46 _ _ hq2
      have hq3 := zX46 _ _ hq3
      have hq4 := zX46 _ _ hq4
      have hq5 := zX46 _ _ hq5
      have hq6 := zX46 _ _ hq6
      have eXX46 := Same.trans eXX45 zX46
      generalize upd X45 rw1 (.lst [V.ref q1, .ref q2, .ref q3, .ref q4, .ref q5, .ref q6]) = X46 at zX46 cX46 eXX46 hq1 hq2 hq3 hq4 hq5 hq6
      have hrw1 := cX46
      refine gnE ?_
      refine asgFL ?_
      refine ⟨_, rfl, ?_⟩
      refine ⟨(by show 2 ≤ sizeLine; decide), fun q7 nq7 => ?_⟩
      have zX47 := Same.new (o := .tup [.str (Str.ofString "world 2\n"), .int 1]) nq7
      have cX47 : (upd X46 q7 (.tup [.str (Str.ofString "world 2\n"), .int 1])) q7 = some (.tup [.str (Str.ofString "world 2\n"), .int 1]) := upd_same
      have hq1 := zX47 _ _ hq1
      have hq2 := zX47 _ _ hq2
      have hq3 := zX47 _ _ hq3
      have hq4 := zX47 _ _ hq4
      have hq5 := zX47 _ _ hq5
      have hq6 := zX47 _ _ hq6
      have hrw1 := zX47 _ _ hrw1
      have eXX47 := Same.trans eXX46 zX47
      generalize upd X46 q7 (.tup [.str (Str.ofString "world 2\n"), .int 1]) = X47 at zX47 cX47 eXX47 hq1 hq2 hq3 hq4 hq5 hq6 hrw1
      have hq7 := cX47
      refine ⟨Str.ofString "\nalike", 199, rfl, rfl, (by decide +kernel), (by decide), (by decide), _, _, rfl, rfl, mul_len 199 (by decide) (by decide), ?_⟩
      refine ⟨(by show 2 ≤ sizeLine; decide), fun q8 nq8 => ?_⟩
      have zX48 := Same.new (o := .tup [.str (Str.ofString "world 2" ++ Txt.mul (Str.ofString "\nalike") 199), .non]) nq8
      have cX48 : (upd X47 q8 (.tup [.str (Str.ofString "world 2" ++ Txt.mul (Str.ofString "\nalike") 199), .non])) q8 = some (.tup [.str (Str.ofString "world 2" ++ Txt.mul (Str.ofString "\nalike") 199), .non]) := upd_same
      have hq1 := zX48 _ _ hq1
      have hq2 := zX48 _ _ hq2
      have hq3 := zX48 _ _ hq3
      have hq4 := zX48 _ _ hq4
      have hq5 := zX48 _ _ hq5
      have hq6 := zX48 _ _ hq6
      have hrw1 := zX48 _ _ hrw1
      have hq7 := zX48 _ _ hq7
      have eXX48 := Same.trans eXX47 zX48
      generalize upd X47 q8 (.tup [.str (Str.ofString "world 2" ++ Txt.mul (Str.ofString "\nalike") 199), .non]) = X48 at zX48 cX48 eXX48 hq1 hq2 hq3 hq4 hq5 hq6 hrw1 hq7
      have hq8 := cX48
      refine ⟨Str.ofString "\nalike", 200, rfl, rfl, (by decide +kernel), (by decide), (by decide), _, _, rfl, rfl, mul_len 200 (by decide) (by decide), ?_⟩
      refine ⟨(by show 2 ≤ sizeLine; decide), fun q9 nq9 => ?_⟩
      have zX49 := Same.new (o := .tup [.str (Str.ofString "world 2" ++ Txt.mul (Str.ofString "\nalike") 200), .int 200]) nq9
      have cX49 : (upd X48 q9 (.tup [.str (Str.ofString "world 2" ++ Txt.mul (Str.ofString "\nalike") 200), .int 200])) q9 = some (.tup [.str (Str.ofString "world 2" ++ Txt.mul (Str.ofString "\nalike") 200), .int 200]) := upd_same
      have hq1 := zX49 _ _ hq1
      have hq2 := zX49 _ _ hq2
      have hq3 := zX49 _ _ hq3
      have hq4 := zX49 _ _ hq4
      have hq5 := zX49 _ _ hq5
      have hq6 := zX49 _ _ hq6
      have hrw1 := zX49 _ _ hrw1
      have hq7 := zX49 _ _ hq7
      have hq8 := zX49 _ _ hq8
      have eXX49 := Same.trans eXX48 zX49
      generalize upd X48 q9 (.tup [.str (Str.ofString "world 2" ++ Txt.mul (Str.ofString "\nalike") 200), .int 200]) = X49 at zX49 cX49 eXX49 hq1 hq2 hq3 hq4 hq5 hq6 hrw1 hq7 hq8
      have hq9 := cX49
      refine ⟨(by show 3 ≤ sizeLine; decide), fun rw2 nrw2 => ?_⟩
      have zX50 := Same.new (o := .lst [V.ref q7, .ref q8, .ref q9]) nrw2
      have cX50 : (upd X49 rw2 (.lst [V.ref q7, .ref q8, .ref q9])) rw2 = some (.lst [V.ref q7, .ref q8, .ref q9]) := upd_same
      have hq1 := zX50 _ _ hq1
      have hq2 := zX50 _ _ hq2
      have hq3 := zX50 _ _ hq3
      have hq4 := zX50 _ _ hq4
      have hq5 := zX50 _ _ hq5
      have hq6 := zX50 _ _ hq6
      have hrw1 := zX50 _ _ hrw1
      have hq7 := zX50 _ _ hq7
      have hq8 := zX50 _ _ hq8
      have hq9 := zX50 _ _ hq9
      have eXX50 := Same.trans eXX49 zX50
      generalize upd X49 rw2 (.lst [V.ref q7, .ref q8, .ref q9]) = X50 at zX50 cX50 eXX50 hq1 hq2 hq3 hq4 hq5 hq6 hrw1 hq7 hq8 hq9
      have hrw2 := cX50
      refine ⟨rw1, rw2, _, _, rfl, rfl, hrw1, hrw2, (by show 6 + 3 ≤ sizeLine; decide), fun rw3 nrw3 => ?_⟩
      have zX51 := Same.new (o := .lst ([V.ref q1, .ref q2, .ref q3, .ref q4, .ref q5, .ref q6] ++ [V.ref q7, .ref q8, .ref q9])) nrw3
      have cX51 : (upd X50 rw3 (.lst ([V.ref q1, .ref q2, .ref q3, .ref q4, .ref q5, .ref q6] ++ [V.ref q7, .ref q8, .ref q9]))) rw3 = some (.lst ([V.ref q1, .ref q2, .ref q3, .ref q4, .ref q5, .ref q6] ++ [V.ref q7, .ref q8, .ref q9])) := upd_same
      have hq1 := zX51 _ _ hq1
      have hq2 := zX51 _ _ hq2
      have hq3 := zX51 _ _ hq3
      have hq4 := zX51 _ _ hq4
      have hq5 := zX51 _ _ hq5
      have hq6 := zX51 _ _ hq6
      have hrw1 := zX51 _ _ hrw1
      have hq7 := zX51 _ _ hq7
      have hq8 := zX51 _ _ hq8
      have hq9 := zX51 _ _ hq9
      have hrw2 := zX51 _ _ hrw2
      have eXX51 := Same.trans eXX50 zX51
      generalize upd X50 rw3 (.lst ([V.ref q1, .ref q2, .ref q3, .ref q4, .ref q5, .ref q6] ++ [V.ref q7, .ref q8, .ref q9])) = X51 at zX51 cX51 eXX51 hq1 hq2 hq3 hq4 hq5 hq6 hrw1 hq7 hq8 hq9 hrw2
      have hrw3 : X51 rw3 = some (.lst [V.ref q1, .ref q2, .ref q3, .ref q4, .ref q5, .ref q6, .ref q7, .ref q8, .ref q9]) := cX51
      refine gnE ?_
      have hdX := eXX51 _ _ hdY
      have hvX := Dp.same eXX51 _ _ hvY
      have hel : ∀ x, x ∈ [V.ref q1, .ref q2, .ref q3, .ref q4, .ref q5, .ref q6, .ref q7, .ref q8, .ref q9] → ∃ (t : Addr) (b : Str) (ps : List (List Nat)) (o : Option Nat), x = .ref t ∧ X51 t = some (.tup [.str b, vN o]) ∧ RowOk b ps o := by
        intro x hx
        rcases List.mem_cons.mp hx with rfl | hx
        · exact ⟨q1, _, _, some 0, rfl, hq1, row1 _ _ (by decide +kernel)⟩
        rcases List.mem_cons.mp hx with rfl | hx
        · exact ⟨q2, _, _, some 0, rfl, hq2, row1 _ _ (by decide +kernel)⟩
        rcases List.mem_cons.mp hx with rfl | hx
        · exact ⟨q3, _, _, some 0, rfl, hq3, row1 _ _ (by decide +kernel)⟩
        rcases List.mem_cons.mp hx with rfl | hx
        · exact ⟨q4, _, _, some 0, rfl, hq4, row1 _ _ (by decide +kernel)⟩
        rcases List.mem_cons.mp hx with rfl | hx
        · exact ⟨q5, _, _, some 0, rfl, hq5, row1 _ _ (by decide +kernel)⟩
        rcases List.mem_cons.mp hx with rfl | hx
        · exact ⟨q6, _, _, none, rfl, hq6, row1 _ _ (by decide +kernel)⟩
        rcases List.mem_cons.mp hx with rfl | hx
        · exact ⟨q7, _, _, some 1, rfl, hq7, row_nl⟩
        rcases List.mem_cons.mp hx with rfl | hx
        · exact ⟨q8, _, _, none, rfl, hq8, row_w2 199 (by decide) (by decide) rfl⟩
        · rw [List.mem_singleton.mp hx]
          exact ⟨q9, _, _, some 200, rfl, hq9, row_w2 200 (by decide) (by decide) rfl⟩
      clear hq1 hq2 hq3 hq4 hq5 hq6 hq7 hq8 hq9 hrw1 hrw2 hdY hvY cX40 cX41 cX42 cX43 cX44 cX45 cX46 cX47 cX48 cX49 cX50 cX51 zX40 zX41 zX42 zX43 zX44 zX45 zX46 zX47 zX48 zX49 zX50 zX51 eXX40 eXX41 eXX42 eXX43 eXX44 eXX45 eXX46 eXX47 eXX48 eXX49 eXX50 eXX51
      refine ⟨_, rfl, rw3, rfl, ⟨_, SqL.of hrw3⟩, ?_⟩
      refine for_list (K := K) (a := rw3) (xs := [V.ref q1, .ref q2, .ref q3, .ref q4, .ref q5, .ref q6, .ref q7, .ref q8, .ref q9]) (fun j σ Z => ∃ (v7 v8 v9 v12 : Option V), σ = [some (.ref sc), some (.ref r), some (.ref sa), some (.ref Ll), some (.ref bd5), some (.ref fn1), some (.int ((a0 + 1 : Nat) : Int)), v7, v8, v9, none, some (.ref rw3), v12, none, none, none, none] ∧ Same X51 Z) ⟨v7, v8, v9, none, rfl, Same.refl _⟩ ?_ ?_ ?_
      · rintro j σ Z hj ⟨_, _, _, _, _, e⟩
        exact sqL_same e (SqL.of hrw3)
      · rintro j x σ Z hy ⟨v7, v8, v9, v12, rfl, eZ⟩
        obtain ⟨t, b, ps, o, rfl, htb, rk⟩ := hel x (List.mem_of_getElem? hy)
        refine ⟨t, _, rfl, .inl (.inl (eZ _ _ htb)), rfl, _, _, rfl, _, _, rfl, rfl, ?_⟩
        refine asgFL ?_
        refine gnE ?_
        have hws := wsum_le rk.le
        have hpb : ps.length * 100 ≤ 300 * 100 := Nat.mul_le_mul_right _ rk.ln
        have hl := rk.ln
        have hrd := rk.rd
        unfold rdE at hrd
        have htl : b.length ≤ 100000 := by
          rw [rk.e, st_len]
          have := joinL10_len ps
          omega
        have hsp : Txt.split b (Str.ofString "\n") = ps.map st := by
          rw [rk.e]
          exact split_st rk.ne rk.n10
        refine ⟨_, rfl, b, ps, rfl, htl, hsp, fun l hl => (by have := rk.le l hl; omega), (by omega), fun k e dd Y6 s6 hdd => ?_, fun es e v9' Y6 s6 hv9 => ?_⟩
        · rw [e] at hrd
          subst hrd
          refine ⟨true, ER.eL, fun _ ax nax => ?_, fun z => Bool.noConfusion z⟩
          refine ⟨_, rfl, CL, .ref CL, .ref CL, true, rfl, rfl, ER.cL, .inr ⟨dd, _, rfl, hdd⟩, fun u h => h, kit_self, ?_⟩
          refine ⟨_, rfl, ?_⟩
          refine iteT ?_
          refine ⟨_, rfl, rfl, rfl, dd, _, rfl, hdd, ?_⟩
          dsimp only [gName]
          refine chk_end ?_
          refine ⟨_, rfl, _, rfl, ?_⟩
          refine ck_same (d := .int (k : Int)) (.int _) (.int _) True.intro True.intro fun Y7 s7 => ?_
          refine iteF ?_
          exact ⟨_, _, _, _, rfl, eZ.trans (s6.trans s7)⟩
        · rw [e] at hrd
          subst hrd
          dsimp only [gName]
          refine chk_end ?_
          refine ⟨_, rfl, _, rfl, ?_⟩
          refine ck_same (d := .none) .non .non True.intro True.intro fun Y7 s7 => ?_
          refine iteF ?_
          exact ⟨_, _, _, _, rfl, eZ.trans (s6.trans s7)⟩
      · rintro σ Z ⟨v7, v8, v9, v12, rfl, eZ⟩
        refine nxE ?_
        have hvZ := Dp.same eZ _ _ hvX
        clear hel hrw3 hdX hvX
        -- near values
        cases hvZ with
        | @tup _ ys _ hst hsd =>
        have yl := DpAll.len hsd
        obtain ⟨wd, rr, rfl, hwW, hwg, hrr, hrl⟩ := scr.split
        obtain ⟨x0, ys', rfl, hx0, htl⟩ := dpa_cons hsd
        have yl' := DpAll.len htl
        have ok0 := scr.ok0
        have nlds : noLs (wd :: rr) = true := scr.nl
        have nlw : noL wd = true := noLs_mem.mp nlds wd List.mem_cons_self
        have nlr : noLs rr = true := noLs_mem.mpr fun d hd => noLs_mem.mp nlds d (List.mem_cons_of_mem _ hd)
        refine asgFL ?_
        refine ⟨(by show 0 ≤ sizeLine; decide), fun fl nfl => ?_⟩
        have e1 := Same.new (o := .lst []) nfl
        have hfl : (upd Z fl (.lst [])) fl = some (.lst []) := upd_same
        generalize upd Z fl (.lst []) = Z1 at e1 hfl
        refine gnE ?_
        refine asgFL ?_
        -- steps[1:]
        refine ⟨_, rfl, _, rfl, ?_⟩
        refine noPx ?_
        refine slT (Same.seqT e1 hst) (by simp) fun p1 Z2 a2 hp1 => ?_
        have hp1 : SqT K Z2 p1 ys' := hp1
        have e2 := e1.trans a2
        -- steps + (("tick", True),)
        refine ⟨_, rfl, (by show 2 ≤ sizeLine; decide), fun u1 nu1 => ?_⟩
        have a3 := Same.new (o := .tup [.str "tick", .bl true]) nu1
        have hu1 : (upd Z2 u1 (.tup [.str "tick", .bl true])) u1 = some (.tup [.str "tick", .bl true]) := upd_same
        generalize upd Z2 u1 (.tup [.str "tick", .bl true]) = Z3 at a3 hu1
        refine ⟨(by show 1 ≤ sizeLine; decide), fun w1 nw1 => ?_⟩
        have a4 := Same.new (o := .tup [.ref u1]) nw1
        have hw1 : (upd Z3 w1 (.tup [.ref u1])) w1 = some (.tup [.ref u1]) := upd_same
        have hu14 := a4 _ _ hu1
        have a24 := a3.trans a4
        generalize upd Z3 w1 (.tup [.ref u1]) = Z4 at a4 hw1 hu14 a24
        have e4 := e2.trans a24
        have yl2 : (x0 :: ys').length ≤ 21 := by omega
        refine ctB (Same.seqT e4 hst) (.inl (.inl hw1)) (by rw [sizeLine_eq]; simp only [List.length_cons, List.length_nil] at yl2 ⊢; omega) fun p2 Z5 a5 hp2 => ?_
        have e5 := e4.trans a5
        have hu15 := a5 _ _ hu14
        have b25 := a24.trans a5
        -- steps + (("tick",),)
        refine ⟨_, rfl, (by show 1 ≤ sizeLine; decide), fun u2 nu2 => ?_⟩
        have a6 := Same.new (o := .tup [.str "tick"]) nu2
        have hu2 : (upd Z5 u2 (.tup [.str "tick"])) u2 = some (.tup [.str "tick"]) := upd_same
        generalize upd Z5 u2 (.tup [.str "tick"]) = Z6 at a6 hu2
        refine ⟨(by show 1 ≤ sizeLine; decide), fun w2 nw2 => ?_⟩
        have a7 := Same.new (o := .tup [.ref u2]) nw2
        have hw2 : (upd Z6 w2 (.tup [.ref u2])) w2 = some (.tup [.ref u2]) := upd_same
        have hu27 := a7 _ _ hu2
        have a57 := a6.trans a7
        generalize upd Z6 w2 (.tup [.ref u2]) = Z7 at a7 hw2 hu27 a57
        have e7 := e5.trans a57
        refine ctB (Same.seqT e7 hst) (.inl (.inl hw2)) (by rw [sizeLine_eq]; simp only [List.length_cons, List.length_nil] at yl2 ⊢; omega) fun p3 Z8 a8 hp3 => ?_
        have e8 := e7.trans a8
        have b58 := a57.trans a8
        have hu28 := a8 _ _ hu27
        -- steps + steps[:1]
        refine ⟨_, rfl, _, rfl, ?_⟩
        refine noPx ?_
        refine ⟨_, rfl, ?_⟩
        refine slG (Same.seqT e8 hst) fun p4a Z9 a9 hp4a => ?_
        have hp4a : SqT K Z9 p4a [x0] := hp4a
        have e9 := e8.trans a9
        refine ctB (Same.seqT e9 hst) hp4a (by rw [sizeLine_eq]; simp only [List.length_cons, List.length_nil] at yl2 ⊢; omega) fun p4 Z10 a10 hp4 => ?_
        have e10 := e9.trans a10
        have b810 := a9.trans a10
        -- (), list(steps)
        refine ⟨(by show 0 ≤ sizeLine; decide), fun p5 np5 => ?_⟩
        have a11 := Same.new (o := .tup []) np5
        have hp5 : (upd Z10 p5 (.tup [])) p5 = some (.tup []) := upd_same
        have e11 := e10.trans a11
        generalize upd Z10 p5 (.tup []) = Z11 at a11 hp5 e11
        refine ⟨_, rfl, sa, _, rfl, .inr (Same.seqT e11 hst), fun p6 np6 => ?_⟩
        have a12 := Same.new (o := .lst (x0 :: ys')) np6
        have hp6 : (upd Z11 p6 (.lst (x0 :: ys'))) p6 = some (.lst (x0 :: ys')) := upd_same
        have n6 : p6 ≠ fl := fun e => by
          have := ((a2.trans b25).trans (b58.trans (b810.trans a11))) _ _ hfl
          rw [← e, np6] at this
          cases this
        have e12 := e11.trans a12
        generalize upd Z11 p6 (.lst (x0 :: ys')) = Z12 at a12 hp6 e12
        refine ⟨(by show 6 ≤ sizeLine; decide), fun l6 nl6 => ?_⟩
        have a13 := Same.new (o := .lst [.ref p1, .ref p2, .ref p3, .ref p4, .ref p5, .ref p6]) nl6
        have hl6 : (upd Z12 l6 (.lst [.ref p1, .ref p2, .ref p3, .ref p4, .ref p5, .ref p6])) l6 = some (.lst [V.ref p1, .ref p2, .ref p3, .ref p4, .ref p5, .ref p6]) := upd_same
        have e13 := e12.trans a13
        generalize upd Z12 l6 (.lst [.ref p1, .ref p2, .ref p3, .ref p4, .ref p5, .ref p6]) = Z13 at a13 hl6 e13
        refine gnE ?_
        -- the two more
        refine ⟨_, rfl, _, rfl, (by show 3 ≤ sizeLine; decide), fun u7 nu7 => ?_⟩
        have a14 := Same.new (o := .tup [.str "show", .int 0, .str ""]) nu7
        have hu7 : (upd Z13 u7 (.tup [.str "show", .int 0, .str ""])) u7 = some (.tup [.str "show", .int 0, .str ""]) := upd_same
        generalize upd Z13 u7 (.tup [.str "show", .int 0, .str ""]) = Z14 at a14 hu7
        refine ⟨(by show 1 ≤ sizeLine; decide), fun w7 nw7 => ?_⟩
        have a15 := Same.new (o := .tup [.ref u7]) nw7
        have hw7 : (upd Z14 w7 (.tup [.ref u7])) w7 = some (.tup [.ref u7]) := upd_same
        have hu75 := a15 _ _ hu7
        have a135 := a14.trans a15
        generalize upd Z14 w7 (.tup [.ref u7]) = Z15 at a15 hw7 hu75 a135
        have e15 := e13.trans a135
        refine ctB (Same.seqT e15 hst) (.inl (.inl hw7)) (by rw [sizeLine_eq]; simp only [List.length_cons, List.length_nil] at yl2 ⊢; omega) fun p7 Z16 a16 hp7 => ?_
        have e16 := e15.trans a16
        have hu76 := a16 _ _ hu75
        refine ⟨_, rfl, ?_⟩
        refine noPx ?_
        refine ⟨_, rfl, ?_⟩
        refine slG (Same.seqT e16 hst) fun p8a Z17 a17 hp8a => ?_
        have hp8a : SqT K Z17 p8a [x0] := hp8a
        have e17 := e16.trans a17
        refine ⟨p8a, 201, [x0], rfl, rfl, hp8a, (by simp), by decide, by decide, (by show 1 ≤ 1000; decide), fun p8 np8 => ?_⟩
        have a18 := Same.new (o := .tup (List.replicate (201 : Int).toNat [x0]).flatten) np8
        have hp8 : (upd Z17 p8 (.tup (List.replicate (201 : Int).toNat [x0]).flatten)) p8 = some (.tup (List.replicate 201 [x0]).flatten) := upd_same
        have e18 := e17.trans a18
        generalize upd Z17 p8 (.tup (List.replicate (201 : Int).toNat [x0]).flatten) = Z18 at a18 hp8 e18
        refine ⟨(by show 2 ≤ sizeLine; decide), fun l2 nl2 => ?_⟩
        have a19 := Same.new (o := .lst [.ref p7, .ref p8]) nl2
        have hl2 : (upd Z18 l2 (.lst [.ref p7, .ref p8])) l2 = some (.lst [V.ref p7, .ref p8]) := upd_same
        have e19 := e18.trans a19
        generalize upd Z18 l2 (.lst [.ref p7, .ref p8]) = Z19 at a19 hl2 e19
        have c1319 : Same Z13 Z19 := a135.trans (a16.trans (a17.trans (a18.trans a19)))
        refine ⟨l6, l2, _, _, rfl, rfl, c1319 _ _ hl6, hl2, (by show 6 + 2 ≤ sizeLine; decide), fun l8 nl8 => ?_⟩
        have a20 := Same.new (o := .lst ([V.ref p1, .ref p2, .ref p3, .ref p4, .ref p5, .ref p6] ++ [V.ref p7, .ref p8])) nl8
        have hl8 : (upd Z19 l8 (.lst ([V.ref p1, .ref p2, .ref p3, .ref p4, .ref p5, .ref p6] ++ [V.ref p7, .ref p8]))) l8 = some (.lst [V.ref p1, .ref p2, .ref p3, .ref p4, .ref p5, .ref p6, .ref p7, .ref p8]) := upd_same
        have n8 : l8 ≠ fl := fun e => by
          have h1 : Z13 fl = some (.lst []) := ((a2.trans b25).trans (b58.trans (b810.trans (a11.trans (a12.trans a13))))) _ _ hfl
          have := c1319 _ _ h1
          rw [← e, nl8] at this
          cases this
        generalize upd Z19 l8 (.lst ([V.ref p1, .ref p2, .ref p3, .ref p4, .ref p5, .ref p6] ++ [V.ref p7, .ref p8])) = Z20 at a20 hl8
        have c1320 := c1319.trans a20
        have c1220 := a13.trans c1320
        have c1020 := (a11.trans a12).trans c1220
        have c820 := b810.trans c1020
        have c520 := b58.trans c820
        have c220 := b25.trans c520
        have c120 := a2.trans c220
        have hfl20 := c120 _ _ hfl
        have e20 := e1.trans c120
        have hst20 := Same.seqT e20 hst
        have hsd20 := DpAll.same e20 _ _ hsd
        have hx20 := Dp.same e20 _ _ hx0
        have htl20 := DpAll.same e20 _ _ htl
        have L : (wd :: rr).length = rr.length + 1 := rfl
        have seqd : ∀ {X : Hp} {p : Addr} {zs : List V}, Same X Z20 → SqT K X p zs → SqT K Z20 p zs := fun s h => Same.seqT s h
        have hb1 : Dp K Z20 (.ref u1) bad1 := .tup (.inl (.inl (c520 _ _ hu15))) (.cons (.str _) (.cons (.bl _) .nil))
        have hb2 : Dp K Z20 (.ref u2) bad2 := .tup (.inl (.inl (c820 _ _ hu28))) (.cons (.str _) .nil)
        have hb3 : Dp K Z20 (.ref u7) bad3 := .tup (.inl (.inl ((a17.trans (a18.trans (a19.trans a20))) _ _ hu76))) (.cons (.str _) (.cons (.int _) (.cons (.str _) .nil)))
        have D1 : Dp K Z20 (.ref p1) (.tuple rr) := .tup (seqd c220 hp1) htl20
        have D2 : Dp K Z20 (.ref p2) (.tuple ((wd :: rr) ++ [bad1])) := .tup (seqd c520 hp2) (dps_snoc hb1 hsd20)
        have D3 : Dp K Z20 (.ref p3) (.tuple ((wd :: rr) ++ [bad2])) := .tup (seqd c820 hp3) (dps_snoc hb2 hsd20)
        have D4 : Dp K Z20 (.ref p4) (.tuple ((wd :: rr) ++ [wd])) := .tup (seqd c1020 hp4) (dps_snoc hx20 hsd20)
        have D5 : Dp K Z20 (.ref p5) (.tuple []) := .tup (.inl (.inl ((a12.trans c1220) _ _ hp5))) .nil
        have D7 : Dp K Z20 (.ref p7) (.tuple ((wd :: rr) ++ [bad3])) := .tup (seqd (a17.trans (a18.trans (a19.trans a20))) hp7) (dps_snoc hb3 hsd20)
        obtain ⟨ms, ⟨m1, m2, m3⟩, D8⟩ : ∃ ms : List PyData, (csO (.tuple ms) = some none ∧ ms.length ≤ 100000 ∧ ∀ e, e ∈ ms → e = wd) ∧ Dp K Z20 (.ref p8) (.tuple ms) := ⟨_, many_facts wd 201 (by decide) (by decide), .tup (.inl (.inl ((a19.trans a20) _ _ hp8))) (dpa_rep hx20 201)⟩
        have hp620 := c1220 _ _ hp6
        have ob := ok0_bad
        have okm : ∀ {b : PyData}, Ok0 b → Ok3 (.tuple ((wd :: rr) ++ [b])) := fun {b} h => ok3_of (by rw [List.length_append, L, List.length_singleton]; omega) fun e he => by
          rcases List.mem_append.mp he with he | he
          · exact ok0 e he
          · rw [List.mem_singleton.mp he]
            exact h
        have flat : ∀ {Y : Hp} {x : V} {d : PyData}, Keep fl Z20 Y → noL d = true → Dp K Z20 x d → Dp K Y x d := fun k n h => dp_tkl (keep_tkl hfl20 k) _ _ n h
        have nlm : ∀ {b : PyData}, noL b = true → noL (.tuple ((wd :: rr) ++ [b])) = true := fun {b} h => by
          show noLs ((wd :: rr) ++ [b]) = true
          refine noLs_mem.mpr fun e he => ?_
          rcases List.mem_append.mp he with he | he
          · exact noLs_mem.mp nlds e he
          · rw [List.mem_singleton.mp he]
            exact h
        have n1 : 1 ≤ (wd :: rr).length := by rw [L]; omega
        let ex : List (Option Nat) := [if rr = [] then none else some 0, some (wd :: rr).length, some (wd :: rr).length, some (wd :: rr).length, none, none, some (wd :: rr).length, none]
        have exl : ex.length = 8 := rfl
        have hel : ∀ (j : Nat) (x : V), [V.ref p1, .ref p2, .ref p3, .ref p4, .ref p5, .ref p6, .ref p7, .ref p8][j]? = some x → ∃ (d : PyData) (o : Option Nat), (∀ Y, Keep fl Z20 Y → Dp K Y x d) ∧ Ok3 d ∧ csO d = some o ∧ ex[j]? = some o := by
          intro j x hj
          match j, hj with
          | 0, h =>
            cases h
            exact ⟨_, _, fun Y k => flat k (by show noLs rr = true; exact nlr) D1, ok3_of (by omega) fun e he => ok0 e (List.mem_cons_of_mem _ he), (by rw [cs_tail (d := wd) hrr hrl]; by_cases c : rr = [] <;> simp [c]), rfl⟩
          | 1, h =>
            cases h
            exact ⟨_, _, fun Y k => flat k (nlm (by unfold bad1; simp only [noL, noLs, Bool.and_self])) D2, okm ob.1, cs_more scr (.inl bad1_ok), rfl⟩
          | 2, h =>
            cases h
            exact ⟨_, _, fun Y k => flat k (nlm (by unfold bad2; simp only [noL, noLs, Bool.and_self])) D3, okm ob.2.1, cs_more scr (.inl bad2_ok), rfl⟩
          | 3, h =>
            cases h
            exact ⟨_, _, fun Y k => flat k (nlm nlw) D4, okm (ok0 _ List.mem_cons_self), cs_more scr (.inr hwW), rfl⟩
          | 4, h =>
            cases h
            exact ⟨_, _, fun Y k => flat k (by show noLs [] = true; unfold noLs; rfl) D5, ok3_of (by simp) (fun e he => nomatch he), rfl, rfl⟩
          | 5, h =>
            cases h
            exact ⟨.list (wd :: rr), none, fun Y k => .lst (SqL.of (k _ _ n6 hp620)) (dps_tkl (keep_tkl hfl20 k) _ _ nlds hsd20), (fun es e => by cases e), rfl, rfl⟩
          | 6, h =>
            cases h
            exact ⟨_, _, fun Y k => flat k (nlm (by unfold bad3; simp only [noL, noLs, Bool.and_self])) D7, okm ob.2.2, cs_more scr (.inl bad3_ok), rfl⟩
          | 7, h =>
            cases h
            exact ⟨.tuple ms, none, fun Y k => flat k (by show noLs ms = true; exact noLs_mem.mpr fun e he => by rw [m3 e he]; exact nlw) D8, ok3_of m2 fun e he => (by rw [m3 e he]; exact ok0 _ List.mem_cons_self), m1, rfl⟩
        clear D1 D2 D3 D4 D5 D7 D8 hb1 hb2 hb3 okm nlm flat hp1 hp2 hp3 hp4 hp5 hp6 hp7 hp8 hp4a hp8a hu15 hu28 hu75 hu76 hw1 hw2 hw7 hl6 hl2
        refine ⟨l8, rfl, ⟨_, SqL.of hl8⟩, ?_⟩
        refine for_list (K := K) (a := l8) (xs := [V.ref p1, .ref p2, .ref p3, .ref p4, .ref p5, .ref p6, .ref p7, .ref p8]) (fun j σ Y => ∃ (w9 w14 : Option V), σ = [some (.ref sc), some (.ref r), some (.ref sa), some (.ref Ll), some (.ref bd5), some (.ref fn1), some (.int ((a0 + 1 : Nat) : Int)), v7, v8, w9, none, some (.ref l6), v12, some (.ref fl), w14, none, none] ∧ Keep fl Z20 Y ∧ Y fl = some (.lst ((ex.take j).map vN))) ⟨v9, none, rfl, Keep.refl _ _, hfl20⟩ ?_ ?_ ?_
        · rintro j σ Y hj ⟨_, _, _, k, _⟩
          exact SqL.of (k _ _ n8 hl8)
        · rintro j x σ Y hy ⟨w9, w14, rfl, kY, hfY⟩
          obtain ⟨d, o, hd, ok, hcs, hex⟩ := hel j x hy
          have hdY := hd Y kY
          have jl : j < 8 := (List.getElem?_eq_some_iff.mp hex).1
          have tk : (ex.take (j + 1)).map vN = (ex.take j).map vN ++ [vN o] := by rw [List.take_add_one, hex, List.map_append]; rfl
          have tl : ((ex.take j).map vN).length < sizeLine := by rw [List.length_map, List.length_take, sizeLine_eq]; omega
          refine asgFL ?_
          refine gnE ?_
          have fin : ∀ (Y2 : Hp), Same Y Y2 → ∃ (w9 w14 : Option V), [some (.ref sc), some (.ref r), some (.ref sa), some (.ref Ll), some (.ref bd5), some (.ref fn1), some (.int ((a0 + 1 : Nat) : Int)), v7, v8, some (vN o), none, some (.ref l6), v12, some (.ref fl), some x, none, none] = [some (.ref sc), some (.ref r), some (.ref sa), some (.ref Ll), some (.ref bd5), some (.ref fn1), some (.int ((a0 + 1 : Nat) : Int)), v7, v8, w9, none, some (.ref l6), v12, some (.ref fl), w14, none, none] ∧ Keep fl Z20 (upd Y2 fl (.lst ((ex.take j).map vN ++ [vN o]))) ∧ (upd Y2 fl (.lst ((ex.take j).map vN ++ [vN o]))) fl = some (.lst ((ex.take (j + 1)).map vN)) := fun Y2 s2 => by
            refine ⟨_, _, rfl, fun b u hb hu => ?_, by rw [upd_same, tk]⟩
            rw [upd_ne hb]
            exact s2 _ _ (kY b u hb hu)
          refine ⟨_, rfl, x, d, rfl, hdY, ok, fun e => (by rw [hcs] at e; cases e), fun e dd Y6 s6 hdd => ?_, fun k e dd Y6 s6 hdd => ?_⟩
          · rw [hcs] at e
            cases e
            refine ⟨true, ER.eS, fun _ ax nax => ?_, fun z => Bool.noConfusion z⟩
            refine ⟨_, rfl, CS, .ref CS, .ref CS, true, rfl, rfl, ER.cS, .inr ⟨dd, _, rfl, hdd⟩, fun u h => h, kit_self, ?_⟩
            refine ⟨_, rfl, ?_⟩
            refine iteT ?_
            refine ⟨_, rfl, rfl, rfl, dd, _, rfl, hdd, ?_⟩
            dsimp only [gName]
            refine ⟨_, rfl, .inl ⟨rfl, _, SqL.of (s6 _ _ hfY)⟩, _, rfl, fl, _, _, rfl, rfl, s6 _ _ hfY, tl, ?_⟩
            exact fin _ s6
          · rw [hcs] at e
            cases e
            refine ⟨true, ER.eS, fun _ ax nax => ?_, fun z => Bool.noConfusion z⟩
            refine ⟨_, rfl, CS, .ref CS, .ref CS, true, rfl, rfl, ER.cS, .inr ⟨dd, _, rfl, hdd⟩, fun u h => h, kit_self, ?_⟩
            refine ⟨_, rfl, ?_⟩
            refine iteT ?_
            refine ⟨_, rfl, rfl, rfl, dd, _, rfl, hdd, ?_⟩
            dsimp only [gName]
            refine ⟨_, rfl, .inl ⟨rfl, _, SqL.of (s6 _ _ hfY)⟩, _, rfl, fl, _, _, rfl, rfl, s6 _ _ hfY, tl, ?_⟩
            exact fin _ s6
        · rintro σ Y ⟨w9, w14, rfl, kY, hfY⟩
          have hstY := (keep_tkl hfl20 kY).seqT hst20
          have hfY : Y fl = some (.lst (ex.map vN)) := hfY
          refine nxE ?_
          refine asgFL ?_
          refine ⟨_, rfl, sa, _, rfl, .inr hstY, ?_⟩
          refine gnE ?_
          have em : ((x0 :: ys').length : Int) = ((wd :: rr).length : Int) := by rw [yl]
          refine ⟨_, rfl, _, rfl, _, _, rfl, rfl, _, rfl, ?_⟩
          have dM : ∀ i : Int, Dp K (upd Y sa (.lst [])) (.int i) (.int i) := fun i => .int i
          have go : ∀ (v0 : V) (lz : Addr), v0 = vN (if rr = [] then none else some 0) → Y lz = none → ∀ (Qf : V → Hp → Prop), (∀ b H', b = true → Qf (.bl b) H') → spAlike K 4 [.ref fl, .ref lz] (upd Y lz (.lst [v0, .int ((x0 :: ys').length : Int), .int ((x0 :: ys').length : Int), .int ((x0 :: ys').length : Int), .non, .non, .int ((x0 :: ys').length : Int), .non])) Qf (fun _ _ _ => False) := by
            intro v0 lz hv0 nlz Qf hq
            have e0 : [v0, V.int ((x0 :: ys').length : Int), .int ((x0 :: ys').length : Int), .int ((x0 :: ys').length : Int), .non, .non, .int ((x0 :: ys').length : Int), .non] = ex.map vN := by
              rw [hv0, em]
              rfl
            rw [e0]
            have sz := Same.new (o := .lst (ex.map vN)) nlz
            have dd : ∀ (H : Hp) (l : List (Option Nat)), DpAll K H (l.map vN) (l.map fun o => fl' o) := fun H l => by
              induction l with
              | nil => exact .nil
              | cons o l ih => exact .cons (by cases o <;> first | exact .non | exact .int _) ih
            have pl : ∀ n, Pl (n + 1) (.list (ex.map fun o => fl' o)) := fun n => ⟨by show 8 ≤ 100000; decide, fun y hy => by
              obtain ⟨o, _, rfl⟩ := List.mem_map.mp hy
              cases o <;> cases n <;> exact trivial⟩
            exact ⟨_, _, .list (ex.map fun o => fl' o), .list (ex.map fun o => fl' o), rfl, .lst (SqL.of (sz _ _ hfY)) (dd _ _), .lst (SqL.of upd_same) (dd _ _), pl 19, pl 3, fun b H' hb _ => hq b H' (hb.mpr rfl)⟩
          by_cases c : rr = []
          · have c1 : decide ((1 : Int) < ((x0 :: ys').length : Int)) = false := decide_eq_false (by rw [em, L, c]; simp)
            rw [c1]
            refine iteF ?_
            refine ⟨_, rfl, _, rfl, _, rfl, _, rfl, (by show 8 ≤ sizeLine; decide), fun lz nlz => ?_⟩
            exact go .non lz (by rw [if_pos c]; rfl) nlz _ fun b H' hb => by subst hb; exact q _
          · have c1 : decide ((1 : Int) < ((x0 :: ys').length : Int)) = true := decide_eq_true (by
              rw [em, L]
              have : rr.length ≠ 0 := fun e => c (List.length_eq_zero_iff.mp e)
              omega)
            rw [c1]
            refine iteT ?_
            refine ⟨_, rfl, _, rfl, _, rfl, _, rfl, (by show 8 ≤ sizeLine; decide), fun lz nlz => ?_⟩
            exact go (.int 0) lz (by rw [if_neg c]; rfl) nlz _ fun b H' hb => by subst hb; exact q _
end
end K19
end
section
namespace K19
open PySem L2 No RZ
/-! ### FORMS as it stands in the written part -/
def visS : List Kd → List Value → Bool
  | [], [] => true
  | k :: f, .str x _ :: us => decide (x = k.s) && visS f us
  | _, _ => false
theorem visS_vals : ∀ {f : List Kd} {us : List Value}, visS f us = true → Vals (f.map fun k => V.str k.s) us
  | [], [], _ => .nil
  | k :: f, .str x t :: us, h => by
    have h' : (decide (x = k.s) && visS f us) = true := h
    rw [Bool.and_eq_true, decide_eq_true_eq] at h'
    exact .cons ⟨t, by rw [h'.1]⟩ (visS_vals h'.2)
theorem visS_len : ∀ {f : List Kd} {us : List Value}, visS f us = true → us.length = f.length
  | [], [], _ => rfl
  | k :: f, .str x t :: us, h => by
    have h' : (decide (x = k.s) && visS f us) = true := h
    rw [Bool.and_eq_true] at h'
    rw [List.length_cons, List.length_cons, visS_len h'.2]
def tupB (K : PySem.W.Frag) (f : List Kd) (v : Value) : Bool := match v with
  | .ref a => (match K.lookup a with
    | some ⟨.type "tuple", _, .seq its _, _⟩ => visS f its.toList && decide (its.size ≤ 10)
    | _ => false)
  | _ => false
def fmB (K : PySem.W.Frag) : List (Str × List Kd) → List DictEntry → Bool
  | [], [] => true
  | p :: r, e :: es => (match e.key with
    | .str x _ => decide (x = p.1) && !e.refKey
    | _ => false) && (tupB K p.2 e.val && fmB K r es)
  | _, _ => false
theorem tupB_ok {K : PySem.W.Frag} {f : List Kd} {v : Value} (h : tupB K f v = true) : ∃ a, v = .ref a ∧ ∀ H, SqT K H a (f.map fun k => V.str k.s) := by
  unfold tupB at h
  split at h
  · rename_i a
    split at h
    · rename_i dd its n sl hl
      rw [Bool.and_eq_true, decide_eq_true_eq] at h
      refine ⟨a, rfl, fun H => .inr ⟨_, its, n, hl, rfl, rfl, Nat.le_trans h.2 (by decide), visS_vals h.1⟩⟩
    · cases h
  · cases h
theorem fmB_find {K : PySem.W.Frag} : ∀ {F : List (Str × List Kd)} {es : List DictEntry}, fmB K F es = true → ∀ z : Str,
    ((F.find? fun p => decide (p.1 = z)) = none → (es.find? (·.key.isStr z)) = none ∧ es.any (·.refKey) = false) ∧
    (∀ p, (F.find? fun p => decide (p.1 = z)) = some p → ∃ e a, (es.find? (·.key.isStr z)) = some e ∧ e.val = .ref a ∧ ∀ H, SqT K H a (p.2.map fun k => V.str k.s))
  | [], [], _, z => ⟨fun _ => ⟨rfl, rfl⟩, fun p h => (nomatch h)⟩
  | p :: r, e :: es, h, z => by
    have h' : ((match e.key with
      | .str x _ => decide (x = p.1) && !e.refKey
      | _ => false) && (tupB K p.2 e.val && fmB K r es)) = true := h
    rw [Bool.and_eq_true, Bool.and_eq_true] at h'
    obtain ⟨h1, h2, h3⟩ := h'
    obtain ⟨ih1, ih2⟩ := fmB_find h3 z
    obtain ⟨a, ha, hs⟩ := tupB_ok h2
    have key : e.key.isStr z = decide (p.1 = z) ∧ e.refKey = false := by
      split at h1
      · rename_i x t hk
        rw [Bool.and_eq_true, decide_eq_true_eq] at h1
        refine ⟨?_, by simpa using h1.2⟩
        rw [hk, PySem.W.isStr_of, ← h1.1]
        show (x == z) = decide (x = z)
        rw [Bool.eq_iff_iff, beq_iff_eq, decide_eq_true_eq]
      · cases h1
    rw [List.find?_cons, List.find?_cons, key.1]
    by_cases c : p.1 = z
    · rw [decide_eq_true c]
      refine ⟨fun h => (nomatch h), fun q hq => ?_⟩
      cases hq
      exact ⟨e, a, rfl, ha, hs⟩
    · rw [decide_eq_false c]
      refine ⟨fun h => ?_, fun q hq => ih2 q hq⟩
      obtain ⟨g1, g2⟩ := ih1 h
      exact ⟨g1, by rw [List.any_cons, key.2, g2]; rfl⟩
theorem fm_of {K : PySem.W.Frag} {w : World} {cF : Addr} {es : Array DictEntry} {n : Nat} (hl : K.lookup cF = some ⟨.type "dict", none, .dict es n, #[]⟩) (hk : PySem.W.KeysLit w.params es.toList) (lo : (cF == sysModules) = false) (h : fmB K formsL es.toList = true) : Fm K w cF := by
  refine ⟨⟨es, n, hl, hk, lo⟩, fun z hz => ?_, fun z f hz => ?_⟩
  · unfold formOf at hz
    have hz : (formsL.find? fun p => decide (p.1 = z)) = none := by
      cases e : formsL.find? fun p => decide (p.1 = z) with
      | none => rfl
      | some p => rw [e] at hz; cases hz
    obtain ⟨g1, g2⟩ := (fmB_find h z).1 hz
    unfold PySem.W.nsIn
    rw [hl]
    dsimp only
    rw [g1]
    dsimp only
    rw [g2]
    rfl
  · unfold formOf at hz
    obtain ⟨p, hp, rfl⟩ := Option.map_eq_some_iff.mp hz
    obtain ⟨e, a, g1, g2, g3⟩ := (fmB_find h z).2 p hp
    refine ⟨a, ?_, g3⟩
    unfold PySem.W.nsIn
    rw [hl]
    dsimp only
    rw [g1]
    dsimp only
    rw [g2]
end K19
end
namespace K19
open PySem L2 No RZ
/-- values of the written part that are these numbers -/
def visN : List Nat → List Value → Bool
  | [], [] => true
  | n :: l, .int i _ :: us => decide (i = (n : Int)) && visN l us
  | _, _ => false
theorem visN_vals : ∀ {l : List Nat} {us : List Value}, visN l us = true → Vals (bV l) us
  | [], [], _ => .nil
  | n :: l, .int i t :: us, h => by
    have h' : (decide (i = (n : Int)) && visN l us) = true := h
    rw [Bool.and_eq_true, decide_eq_true_eq] at h'
    exact .cons ⟨t, by rw [h'.1]⟩ (visN_vals h'.2)
theorem visN_len : ∀ {l : List Nat} {us : List Value}, visN l us = true → us.length = l.length := fun {l us} h => by
  have := (visN_vals h).length
  rw [bV_len] at this
  exact this.symm
theorem tupN_size {l : List Nat} {us : Array Value} (h : visN l us.toList = true) (hl : l.length ≤ 1000) : us.size ≤ sizeLine := by
  have := visN_len h
  rw [Array.length_toList] at this
  rw [this]
  exact Nat.le_trans hl (by decide)
theorem dfn_mk {K : PySem.W.Frag} {h : Heap} {mg : Str → Option Value} {x : Str} {st : Stmt} {ps : List Str} {f : Addr} {oc : Value} {od an : Option Addr} {osl : Array (Option Value)} {kV doc pm cdv ct : Value} (X : K.In h) (G : h.Ns mainGlobals mg)
    (a : PySem.W.nsIn K mainGlobals x = some (some (.ref f))) (l : K.lookup f = some ⟨oc, od, .func (PySem.W.fnOf x x (defArgs st) (defBody st) (defScope st) .none kV doc pm an cdv ct), osl⟩) (c : PySem.W.codeIn K cdv x = true) (k : PySem.W.keepIn K (.ref f) = true)
    (b : ∀ (kV doc pm : Value) (an : Option Addr) (cdv ct : Value) (us : List Value), us.length = ps.length → bindArgs (PySem.W.fnOf x x (defArgs st) (defBody st) (defScope st) .none kV doc pm an cdv ct) ⟨us, []⟩ = pure (ps.zip us)) :
    Dfn K mg x st ps f (PySem.W.fnOf x x (defArgs st) (defBody st) (defScope st) .none kV doc pm an cdv ct) := ⟨fun_mk l c k, PySem.W.mg_of X G a, (fun_mk l c k).binds b⟩
theorem all_mk {l : PySem.W.OpenLaw} {w : World} {K : PySem.W.Frag} {h : Heap} {mg : Str → Option Value} {fa f1 f2 f3 f4 f5 f6 f7 f8 f9 f10 f11 f12 f13 f14 f15 f16 f17 f18 f19 f20 f21 f22 f23 f24 f25 f26 f27 f28 f29 f30 f31 f32 f33 f34 f35 f36 f37 f38 f39 f40 f41 f42 f43 : Addr} (X : K.In h) (G : h.Ns mainGlobals mg) (hfa : mg "law" = some (.ref fa))
    {od1 an1 od2 an2 od3 an3 od4 an4 od5 an5 od6 an6 od7 an7 od8 an8 od9 an9 od10 an10 od11 an11 od12 an12 od13 an13 od14 an14 od15 an15 od16 an16 od17 an17 od18 an18 od19 an19 od20 an20 od21 an21 od22 an22 od23 an23 od24 an24 od25 an25 od26 an26 od27 an27 od28 an28 od29 an29 od30 an30 od31 an31 od32 an32 od33 an33 od34 an34 od35 an35 od36 an36 od37 an37 od38 an38 od39 an39 od40 an40 od41 an41 od42 an42 od43 an43 : Option Addr} {sl1 sl2 sl3 sl4 sl5 sl6 sl7 sl8 sl9 sl10 sl11 sl12 sl13 sl14 sl15 sl16 sl17 sl18 sl19 sl20 sl21 sl22 sl23 sl24 sl25 sl26 sl27 sl28 sl29 sl30 sl31 sl32 sl33 sl34 sl35 sl36 sl37 sl38 sl39 sl40 sl41 sl42 sl43 : Array (Option Value)} {oc1 kV1 dc1 pm1 cd1 ct1 oc2 kV2 dc2 pm2 cd2 ct2 oc3 kV3 dc3 pm3 cd3 ct3 oc4 kV4 dc4 pm4 cd4 ct4 oc5 kV5 dc5 pm5 cd5 ct5 oc6 kV6 dc6 pm6 cd6 ct6 oc7 kV7 dc7 pm7 cd7 ct7 oc8 kV8 dc8 pm8 cd8 ct8 oc9 kV9 dc9 pm9 cd9 ct9 oc10 kV10 dc10 pm10 cd10 ct10 oc11 kV11 dc11 pm11 cd11 ct11 oc12 kV12 dc12 pm12 cd12 ct12 oc13 kV13 dc13 pm13 cd13 ct13 oc14 kV14 dc14 pm14 cd14 ct14 oc15 kV15 dc15 pm15 cd15 ct15 oc16 kV16 dc16 pm16 cd16 ct16 oc17 kV17 dc17 pm17 cd17 ct17 oc18 kV18 dc18 pm18 cd18 ct18 oc19 kV19 dc19 pm19 cd19 ct19 oc20 kV20 dc20 pm20 cd20 ct20 oc21 kV21 dc21 pm21 cd21 ct21 oc22 kV22 dc22 pm22 cd22 ct22 oc23 kV23 dc23 pm23 cd23 ct23 oc24 kV24 dc24 pm24 cd24 ct24 oc25 kV25 dc25 pm25 cd25 ct25 oc26 kV26 dc26 pm26 cd26 ct26 oc27 kV27 dc27 pm27 cd27 ct27 oc28 kV28 dc28 pm28 cd28 ct28 oc29 kV29 dc29 pm29 cd29 ct29 oc30 kV30 dc30 pm30 cd30 ct30 oc31 kV31 dc31 pm31 cd31 ct31 oc32 kV32 dc32 pm32 cd32 ct32 oc33 kV33 dc33 pm33 cd33 ct33 oc34 kV34 dc34 pm34 cd34 ct34 oc35 kV35 dc35 pm35 cd35 ct35 oc36 kV36 dc36 pm36 cd36 ct36 oc37 kV37 dc37 pm37 cd37 ct37 oc38 kV38 dc38 pm38 cd38 ct38 oc39 kV39 dc39 pm39 cd39 ct39 oc40 kV40 dc40 pm40 cd40 ct40 oc41 kV41 dc41 pm41 cd41 ct41 oc42 kV42 dc42 pm42 cd42 ct42 oc43 kV43 dc43 pm43 cd43 ct43 : Value}
    {t_MOST_SIGNS t_MOST_INTEGER t_MOST_COUNT t_MOST_FIGURES t_MOST_KEY t_MOST_STEPS : Tok}
    {t_sg : Tok} {CE : Addr} {CL fI cdaL ccL NWL : Addr} {nmWL qWL qIL txL fileL : Str} {bsWL : List Value} {snWL : List Str} {subWL : List Value} {abWL : Bool} {colWL : Option Bool} {ddWL odWL anWL cddL cldWL : Option Addr} {w0L w1L w2L w3L w5L : Option Value} {ocWL docWL pmWL ctWL cclL clWL : Value} {oslWL ccsL cslWL : Array (Option Value)} {vsWL : Array Value} {tfL : Tok} {p1L p2L q1L q2L q3L q4L q5L q6L q7L q8L q9L r1L r2L r3L r4L : Pos} {CS fJ cdaS ccS NWS : Addr} {nmWS qWS qIS txS fileS : Str} {bsWS : List Value} {snWS : List Str} {subWS : List Value} {abWS : Bool} {colWS : Option Bool} {ddWS odWS anWS cddS cldWS : Option Addr} {w0S w1S w2S w3S w5S : Option Value} {ocWS docWS pmWS ctWS cclS clWS : Value} {oslWS ccsS cslWS : Array (Option Value)} {vsWS : Array Value} {tfS : Tok} {p1S p2S q1S q2S q3S q4S q5S q6S q7S q8S q9S r1S r2S r3S r4S : Pos} {t_fig : Tok} {cF : Addr} {es_d : Array DictEntry} {n_d : Nat}
    (a1 : PySem.W.nsIn K mainGlobals "is_between" = some (some (.ref f1))) (l1 : K.lookup f1 = some ⟨oc1, od1, .func (PySem.W.fnOf "is_between" "is_between" (defArgs sis_between) (defBody sis_between) (defScope sis_between) .none kV1 dc1 pm1 an1 cd1 ct1), sl1⟩) (c1 : PySem.W.codeIn K cd1 "is_between" = true) (k1 : PySem.W.keepIn K (.ref f1) = true)
    (a2 : PySem.W.nsIn K mainGlobals "is_signs" = some (some (.ref f2))) (l2 : K.lookup f2 = some ⟨oc2, od2, .func (PySem.W.fnOf "is_signs" "is_signs" (defArgs sis_signs) (defBody sis_signs) (defScope sis_signs) .none kV2 dc2 pm2 an2 cd2 ct2), sl2⟩) (c2 : PySem.W.codeIn K cd2 "is_signs" = true) (k2 : PySem.W.keepIn K (.ref f2) = true)
    (a3 : PySem.W.nsIn K mainGlobals "is_value" = some (some (.ref f3))) (l3 : K.lookup f3 = some ⟨oc3, od3, .func (PySem.W.fnOf "is_value" "is_value" (defArgs sis_value) (defBody sis_value) (defScope sis_value) .none kV3 dc3 pm3 an3 cd3 ct3), sl3⟩) (c3 : PySem.W.codeIn K cd3 "is_value" = true) (k3 : PySem.W.keepIn K (.ref f3) = true)
    (a4 : PySem.W.nsIn K mainGlobals "is_figures" = some (some (.ref f4))) (l4 : K.lookup f4 = some ⟨oc4, od4, .func (PySem.W.fnOf "is_figures" "is_figures" (defArgs sis_figures) (defBody sis_figures) (defScope sis_figures) .none kV4 dc4 pm4 an4 cd4 ct4), sl4⟩) (c4 : PySem.W.codeIn K cd4 "is_figures" = true) (k4 : PySem.W.keepIn K (.ref f4) = true)
    (a5 : PySem.W.nsIn K mainGlobals "word_end" = some (some (.ref f5))) (l5 : K.lookup f5 = some ⟨oc5, od5, .func (PySem.W.fnOf "word_end" "word_end" (defArgs sword_end) (defBody sword_end) (defScope sword_end) .none kV5 dc5 pm5 an5 cd5 ct5), sl5⟩) (c5 : PySem.W.codeIn K cd5 "word_end" = true) (k5 : PySem.W.keepIn K (.ref f5) = true)
    (a6 : PySem.W.nsIn K mainGlobals "words_of" = some (some (.ref f6))) (l6 : K.lookup f6 = some ⟨oc6, od6, .func (PySem.W.fnOf "words_of" "words_of" (defArgs swords_of) (defBody swords_of) (defScope swords_of) .none kV6 dc6 pm6 an6 cd6 ct6), sl6⟩) (c6 : PySem.W.codeIn K cd6 "words_of" = true) (k6 : PySem.W.keepIn K (.ref f6) = true)
    (a7 : PySem.W.nsIn K mainGlobals "count_told" = some (some (.ref f7))) (l7 : K.lookup f7 = some ⟨oc7, od7, .func (PySem.W.fnOf "count_told" "count_told" (defArgs scount_told) (defBody scount_told) (defScope scount_told) .none kV7 dc7 pm7 an7 cd7 ct7), sl7⟩) (c7 : PySem.W.codeIn K cd7 "count_told" = true) (k7 : PySem.W.keepIn K (.ref f7) = true)
    (a8 : PySem.W.nsIn K mainGlobals "text_told" = some (some (.ref f8))) (l8 : K.lookup f8 = some ⟨oc8, od8, .func (PySem.W.fnOf "text_told" "text_told" (defArgs stext_told) (defBody stext_told) (defScope stext_told) .none kV8 dc8 pm8 an8 cd8 ct8), sl8⟩) (c8 : PySem.W.codeIn K cd8 "text_told" = true) (k8 : PySem.W.keepIn K (.ref f8) = true)
    (a9 : PySem.W.nsIn K mainGlobals "integer_told" = some (some (.ref f9))) (l9 : K.lookup f9 = some ⟨oc9, od9, .func (PySem.W.fnOf "integer_told" "integer_told" (defArgs sinteger_told) (defBody sinteger_told) (defScope sinteger_told) .none kV9 dc9 pm9 an9 cd9 ct9), sl9⟩) (c9 : PySem.W.codeIn K cd9 "integer_told" = true) (k9 : PySem.W.keepIn K (.ref f9) = true)
    (a10 : PySem.W.nsIn K mainGlobals "is_value_word" = some (some (.ref f10))) (l10 : K.lookup f10 = some ⟨oc10, od10, .func (PySem.W.fnOf "is_value_word" "is_value_word" (defArgs sis_value_word) (defBody sis_value_word) (defScope sis_value_word) .none kV10 dc10 pm10 an10 cd10 ct10), sl10⟩) (c10 : PySem.W.codeIn K cd10 "is_value_word" = true) (k10 : PySem.W.keepIn K (.ref f10) = true)
    (a11 : PySem.W.nsIn K mainGlobals "value_told" = some (some (.ref f11))) (l11 : K.lookup f11 = some ⟨oc11, od11, .func (PySem.W.fnOf "value_told" "value_told" (defArgs svalue_told) (defBody svalue_told) (defScope svalue_told) .none kV11 dc11 pm11 an11 cd11 ct11), sl11⟩) (c11 : PySem.W.codeIn K cd11 "value_told" = true) (k11 : PySem.W.keepIn K (.ref f11) = true)
    (a12 : PySem.W.nsIn K mainGlobals "text_word" = some (some (.ref f12))) (l12 : K.lookup f12 = some ⟨oc12, od12, .func (PySem.W.fnOf "text_word" "text_word" (defArgs stext_word) (defBody stext_word) (defScope stext_word) .none kV12 dc12 pm12 an12 cd12 ct12), sl12⟩) (c12 : PySem.W.codeIn K cd12 "text_word" = true) (k12 : PySem.W.keepIn K (.ref f12) = true)
    (a13 : PySem.W.nsIn K mainGlobals "value_word" = some (some (.ref f13))) (l13 : K.lookup f13 = some ⟨oc13, od13, .func (PySem.W.fnOf "value_word" "value_word" (defArgs svalue_word) (defBody svalue_word) (defScope svalue_word) .none kV13 dc13 pm13 an13 cd13 ct13), sl13⟩) (c13 : PySem.W.codeIn K cd13 "value_word" = true) (k13 : PySem.W.keepIn K (.ref f13) = true)
    (a14 : PySem.W.nsIn K mainGlobals "is_key" = some (some (.ref f14))) (l14 : K.lookup f14 = some ⟨oc14, od14, .func (PySem.W.fnOf "is_key" "is_key" (defArgs sis_key) (defBody sis_key) (defScope sis_key) .none kV14 dc14 pm14 an14 cd14 ct14), sl14⟩) (c14 : PySem.W.codeIn K cd14 "is_key" = true) (k14 : PySem.W.keepIn K (.ref f14) = true)
    (a15 : PySem.W.nsIn K mainGlobals "is_count" = some (some (.ref f15))) (l15 : K.lookup f15 = some ⟨oc15, od15, .func (PySem.W.fnOf "is_count" "is_count" (defArgs sis_count) (defBody sis_count) (defScope sis_count) .none kV15 dc15 pm15 an15 cd15 ct15), sl15⟩) (c15 : PySem.W.codeIn K cd15 "is_count" = true) (k15 : PySem.W.keepIn K (.ref f15) = true)
    (a16 : PySem.W.nsIn K mainGlobals "is_part" = some (some (.ref f16))) (l16 : K.lookup f16 = some ⟨oc16, od16, .func (PySem.W.fnOf "is_part" "is_part" (defArgs sis_part) (defBody sis_part) (defScope sis_part) .none kV16 dc16 pm16 an16 cd16 ct16), sl16⟩) (c16 : PySem.W.codeIn K cd16 "is_part" = true) (k16 : PySem.W.keepIn K (.ref f16) = true)
    (a17 : PySem.W.nsIn K mainGlobals "is_pair" = some (some (.ref f17))) (l17 : K.lookup f17 = some ⟨oc17, od17, .func (PySem.W.fnOf "is_pair" "is_pair" (defArgs sis_pair) (defBody sis_pair) (defScope sis_pair) .none kV17 dc17 pm17 an17 cd17 ct17), sl17⟩) (c17 : PySem.W.codeIn K cd17 "is_pair" = true) (k17 : PySem.W.keepIn K (.ref f17) = true)
    (a18 : PySem.W.nsIn K mainGlobals "is_world_step" = some (some (.ref f18))) (l18 : K.lookup f18 = some ⟨oc18, od18, .func (PySem.W.fnOf "is_world_step" "is_world_step" (defArgs sis_world_step) (defBody sis_world_step) (defScope sis_world_step) .none kV18 dc18 pm18 an18 cd18 ct18), sl18⟩) (c18 : PySem.W.codeIn K cd18 "is_world_step" = true) (k18 : PySem.W.keepIn K (.ref f18) = true)
    (a19 : PySem.W.nsIn K mainGlobals "is_step" = some (some (.ref f19))) (l19 : K.lookup f19 = some ⟨oc19, od19, .func (PySem.W.fnOf "is_step" "is_step" (defArgs sis_step) (defBody sis_step) (defScope sis_step) .none kV19 dc19 pm19 an19 cd19 ct19), sl19⟩) (c19 : PySem.W.codeIn K cd19 "is_step" = true) (k19 : PySem.W.keepIn K (.ref f19) = true)
    (a20 : PySem.W.nsIn K mainGlobals "check_steps" = some (some (.ref f20))) (l20 : K.lookup f20 = some ⟨oc20, od20, .func (PySem.W.fnOf "check_steps" "check_steps" (defArgs scheck_steps) (defBody scheck_steps) (defScope scheck_steps) .none kV20 dc20 pm20 an20 cd20 ct20), sl20⟩) (c20 : PySem.W.codeIn K cd20 "check_steps" = true) (k20 : PySem.W.keepIn K (.ref f20) = true)
    (a21 : PySem.W.nsIn K mainGlobals "part_word" = some (some (.ref f21))) (l21 : K.lookup f21 = some ⟨oc21, od21, .func (PySem.W.fnOf "part_word" "part_word" (defArgs spart_word) (defBody spart_word) (defScope spart_word) .none kV21 dc21 pm21 an21 cd21 ct21), sl21⟩) (c21 : PySem.W.codeIn K cd21 "part_word" = true) (k21 : PySem.W.keepIn K (.ref f21) = true)
    (a22 : PySem.W.nsIn K mainGlobals "line_of" = some (some (.ref f22))) (l22 : K.lookup f22 = some ⟨oc22, od22, .func (PySem.W.fnOf "line_of" "line_of" (defArgs sline_of) (defBody sline_of) (defScope sline_of) .none kV22 dc22 pm22 an22 cd22 ct22), sl22⟩) (c22 : PySem.W.codeIn K cd22 "line_of" = true) (k22 : PySem.W.keepIn K (.ref f22) = true)
    (a23 : PySem.W.nsIn K mainGlobals "is_part_word" = some (some (.ref f23))) (l23 : K.lookup f23 = some ⟨oc23, od23, .func (PySem.W.fnOf "is_part_word" "is_part_word" (defArgs sis_part_word) (defBody sis_part_word) (defScope sis_part_word) .none kV23 dc23 pm23 an23 cd23 ct23), sl23⟩) (c23 : PySem.W.codeIn K cd23 "is_part_word" = true) (k23 : PySem.W.keepIn K (.ref f23) = true)
    (a24 : PySem.W.nsIn K mainGlobals "part_told" = some (some (.ref f24))) (l24 : K.lookup f24 = some ⟨oc24, od24, .func (PySem.W.fnOf "part_told" "part_told" (defArgs spart_told) (defBody spart_told) (defScope spart_told) .none kV24 dc24 pm24 an24 cd24 ct24), sl24⟩) (c24 : PySem.W.codeIn K cd24 "part_told" = true) (k24 : PySem.W.keepIn K (.ref f24) = true)
    (a25 : PySem.W.nsIn K mainGlobals "link_told" = some (some (.ref f25))) (l25 : K.lookup f25 = some ⟨oc25, od25, .func (PySem.W.fnOf "link_told" "link_told" (defArgs slink_told) (defBody slink_told) (defScope slink_told) .none kV25 dc25 pm25 an25 cd25 ct25), sl25⟩) (c25 : PySem.W.codeIn K cd25 "link_told" = true) (k25 : PySem.W.keepIn K (.ref f25) = true)
    (a26 : PySem.W.nsIn K mainGlobals "world_told" = some (some (.ref f26))) (l26 : K.lookup f26 = some ⟨oc26, od26, .func (PySem.W.fnOf "world_told" "world_told" (defArgs sworld_told) (defBody sworld_told) (defScope sworld_told) .none kV26 dc26 pm26 an26 cd26 ct26), sl26⟩) (c26 : PySem.W.codeIn K cd26 "world_told" = true) (k26 : PySem.W.keepIn K (.ref f26) = true)
    (a27 : PySem.W.nsIn K mainGlobals "step_told" = some (some (.ref f27))) (l27 : K.lookup f27 = some ⟨oc27, od27, .func (PySem.W.fnOf "step_told" "step_told" (defArgs sstep_told) (defBody sstep_told) (defScope sstep_told) .none kV27 dc27 pm27 an27 cd27 ct27), sl27⟩) (c27 : PySem.W.codeIn K cd27 "step_told" = true) (k27 : PySem.W.keepIn K (.ref f27) = true)
    (a28 : PySem.W.nsIn K mainGlobals "write_script" = some (some (.ref f28))) (l28 : K.lookup f28 = some ⟨oc28, od28, .func (PySem.W.fnOf "write_script" "write_script" (defArgs swrite_script) (defBody swrite_script) (defScope swrite_script) .none kV28 dc28 pm28 an28 cd28 ct28), sl28⟩) (c28 : PySem.W.codeIn K cd28 "write_script" = true) (k28 : PySem.W.keepIn K (.ref f28) = true)
    (a29 : PySem.W.nsIn K mainGlobals "read_script" = some (some (.ref f29))) (l29 : K.lookup f29 = some ⟨oc29, od29, .func (PySem.W.fnOf "read_script" "read_script" (defArgs sread_script) (defBody sread_script) (defScope sread_script) .none kV29 dc29 pm29 an29 cd29 ct29), sl29⟩) (c29 : PySem.W.codeIn K cd29 "read_script" = true) (k29 : PySem.W.keepIn K (.ref f29) = true)
    (a30 : PySem.W.nsIn K mainGlobals "_law_taken" = some (some (.ref f30))) (l30 : K.lookup f30 = some ⟨oc30, od30, .func (PySem.W.fnOf "_law_taken" "_law_taken" (defArgs s_law_taken) (defBody s_law_taken) (defScope s_law_taken) .none kV30 dc30 pm30 an30 cd30 ct30), sl30⟩) (c30 : PySem.W.codeIn K cd30 "_law_taken" = true) (k30 : PySem.W.keepIn K (.ref f30) = true)
    (a31 : PySem.W.nsIn K mainGlobals "_law_links" = some (some (.ref f31))) (l31 : K.lookup f31 = some ⟨oc31, od31, .func (PySem.W.fnOf "_law_links" "_law_links" (defArgs s_law_links) (defBody s_law_links) (defScope s_law_links) .none kV31 dc31 pm31 an31 cd31 ct31), sl31⟩) (c31 : PySem.W.codeIn K cd31 "_law_links" = true) (k31 : PySem.W.keepIn K (.ref f31) = true)
    (a32 : PySem.W.nsIn K mainGlobals "_law_pick" = some (some (.ref f32))) (l32 : K.lookup f32 = some ⟨oc32, od32, .func (PySem.W.fnOf "_law_pick" "_law_pick" (defArgs s_law_pick) (defBody s_law_pick) (defScope s_law_pick) .none kV32 dc32 pm32 an32 cd32 ct32), sl32⟩) (c32 : PySem.W.codeIn K cd32 "_law_pick" = true) (k32 : PySem.W.keepIn K (.ref f32) = true)
    (a33 : PySem.W.nsIn K mainGlobals "_law_some_key" = some (some (.ref f33))) (l33 : K.lookup f33 = some ⟨oc33, od33, .func (PySem.W.fnOf "_law_some_key" "_law_some_key" (defArgs s_law_some_key) (defBody s_law_some_key) (defScope s_law_some_key) .none kV33 dc33 pm33 an33 cd33 ct33), sl33⟩) (c33 : PySem.W.codeIn K cd33 "_law_some_key" = true) (k33 : PySem.W.keepIn K (.ref f33) = true)
    (a34 : PySem.W.nsIn K mainGlobals "_law_signs_row" = some (some (.ref f34))) (l34 : K.lookup f34 = some ⟨oc34, od34, .func (PySem.W.fnOf "_law_signs_row" "_law_signs_row" (defArgs s_law_signs_row) (defBody s_law_signs_row) (defScope s_law_signs_row) .none kV34 dc34 pm34 an34 cd34 ct34), sl34⟩) (c34 : PySem.W.codeIn K cd34 "_law_signs_row" = true) (k34 : PySem.W.keepIn K (.ref f34) = true)
    (a35 : PySem.W.nsIn K mainGlobals "_law_some_text" = some (some (.ref f35))) (l35 : K.lookup f35 = some ⟨oc35, od35, .func (PySem.W.fnOf "_law_some_text" "_law_some_text" (defArgs s_law_some_text) (defBody s_law_some_text) (defScope s_law_some_text) .none kV35 dc35 pm35 an35 cd35 ct35), sl35⟩) (c35 : PySem.W.codeIn K cd35 "_law_some_text" = true) (k35 : PySem.W.keepIn K (.ref f35) = true)
    (a36 : PySem.W.nsIn K mainGlobals "_law_signed" = some (some (.ref f36))) (l36 : K.lookup f36 = some ⟨oc36, od36, .func (PySem.W.fnOf "_law_signed" "_law_signed" (defArgs s_law_signed) (defBody s_law_signed) (defScope s_law_signed) .none kV36 dc36 pm36 an36 cd36 ct36), sl36⟩) (c36 : PySem.W.codeIn K cd36 "_law_signed" = true) (k36 : PySem.W.keepIn K (.ref f36) = true)
    (a37 : PySem.W.nsIn K mainGlobals "_law_some_value" = some (some (.ref f37))) (l37 : K.lookup f37 = some ⟨oc37, od37, .func (PySem.W.fnOf "_law_some_value" "_law_some_value" (defArgs s_law_some_value) (defBody s_law_some_value) (defScope s_law_some_value) .none kV37 dc37 pm37 an37 cd37 ct37), sl37⟩) (c37 : PySem.W.codeIn K cd37 "_law_some_value" = true) (k37 : PySem.W.keepIn K (.ref f37) = true)
    (a38 : PySem.W.nsIn K mainGlobals "_law_step" = some (some (.ref f38))) (l38 : K.lookup f38 = some ⟨oc38, od38, .func (PySem.W.fnOf "_law_step" "_law_step" (defArgs s_law_step) (defBody s_law_step) (defScope s_law_step) .none kV38 dc38 pm38 an38 cd38 ct38), sl38⟩) (c38 : PySem.W.codeIn K cd38 "_law_step" = true) (k38 : PySem.W.keepIn K (.ref f38) = true)
    (a39 : PySem.W.nsIn K mainGlobals "_law_script" = some (some (.ref f39))) (l39 : K.lookup f39 = some ⟨oc39, od39, .func (PySem.W.fnOf "_law_script" "_law_script" (defArgs s_law_script) (defBody s_law_script) (defScope s_law_script) .none kV39 dc39 pm39 an39 cd39 ct39), sl39⟩) (c39 : PySem.W.codeIn K cd39 "_law_script" = true) (k39 : PySem.W.keepIn K (.ref f39) = true)
    (a40 : PySem.W.nsIn K mainGlobals "_law_value_word" = some (some (.ref f40))) (l40 : K.lookup f40 = some ⟨oc40, od40, .func (PySem.W.fnOf "_law_value_word" "_law_value_word" (defArgs s_law_value_word) (defBody s_law_value_word) (defScope s_law_value_word) .none kV40 dc40 pm40 an40 cd40 ct40), sl40⟩) (c40 : PySem.W.codeIn K cd40 "_law_value_word" = true) (k40 : PySem.W.keepIn K (.ref f40) = true)
    (a41 : PySem.W.nsIn K mainGlobals "_law_line" = some (some (.ref f41))) (l41 : K.lookup f41 = some ⟨oc41, od41, .func (PySem.W.fnOf "_law_line" "_law_line" (defArgs s_law_line) (defBody s_law_line) (defScope s_law_line) .none kV41 dc41 pm41 an41 cd41 ct41), sl41⟩) (c41 : PySem.W.codeIn K cd41 "_law_line" = true) (k41 : PySem.W.keepIn K (.ref f41) = true)
    (a42 : PySem.W.nsIn K mainGlobals "_law_alike" = some (some (.ref f42))) (l42 : K.lookup f42 = some ⟨oc42, od42, .func (PySem.W.fnOf "_law_alike" "_law_alike" (defArgs s_law_alike) (defBody s_law_alike) (defScope s_law_alike) .none kV42 dc42 pm42 an42 cd42 ct42), sl42⟩) (c42 : PySem.W.codeIn K cd42 "_law_alike" = true) (k42 : PySem.W.keepIn K (.ref f42) = true)
    (a43 : PySem.W.nsIn K mainGlobals "law" = some (some (.ref f43))) (l43 : K.lookup f43 = some ⟨oc43, od43, .func (PySem.W.fnOf "law" "law" (defArgs slaw) (defBody slaw) (defScope slaw) .none kV43 dc43 pm43 an43 cd43 ct43), sl43⟩) (c43 : PySem.W.codeIn K cd43 "law" = true) (k43 : PySem.W.keepIn K (.ref f43) = true)
    (i_MOST_SIGNS : PySem.W.nsIn K mainGlobals "MOST_SIGNS" = some (some (.int 200 t_MOST_SIGNS)))
    (i_MOST_INTEGER : PySem.W.nsIn K mainGlobals "MOST_INTEGER" = some (some (.int 1099511627776 t_MOST_INTEGER)))
    (i_MOST_COUNT : PySem.W.nsIn K mainGlobals "MOST_COUNT" = some (some (.int 1048576 t_MOST_COUNT)))
    (i_MOST_FIGURES : PySem.W.nsIn K mainGlobals "MOST_FIGURES" = some (some (.int 20 t_MOST_FIGURES)))
    (i_MOST_KEY : PySem.W.nsIn K mainGlobals "MOST_KEY" = some (some (.int 40 t_MOST_KEY)))
    (i_MOST_STEPS : PySem.W.nsIn K mainGlobals "MOST_STEPS" = some (some (.int 200 t_MOST_STEPS)))
    (z_len : PySem.W.nsIn K mainGlobals "len" = some none)
    (z_int : PySem.W.nsIn K mainGlobals "int" = some none)
    (z_range : PySem.W.nsIn K mainGlobals "range" = some none)
    (z_tuple : PySem.W.nsIn K mainGlobals "tuple" = some none)
    (z_list : PySem.W.nsIn K mainGlobals "list" = some none)
    (z_isinstance : PySem.W.nsIn K mainGlobals "isinstance" = some none)
    (z_zip : PySem.W.nsIn K mainGlobals "zip" = some none)
    (z_type : PySem.W.nsIn K mainGlobals "type" = some none)
    (z_str : PySem.W.nsIn K mainGlobals "str" = some none)
    (z_bool : PySem.W.nsIn K mainGlobals "bool" = some none)
    (z_all : PySem.W.nsIn K mainGlobals "all" = some none)
    (z_min : PySem.W.nsIn K mainGlobals "min" = some none)
    (z_max : PySem.W.nsIn K mainGlobals "max" = some none)
    (z_enumerate : PySem.W.nsIn K mainGlobals "enumerate" = some none)
    (z_set : PySem.W.nsIn K mainGlobals "set" = some none)
    (z_sorted : PySem.W.nsIn K mainGlobals "sorted" = some none)
    (i_sg : PySem.W.nsIn K mainGlobals "SIGNS" = some (some (.str "abcdefghijklmnopqrstuvwxyzABCDEFGHIJKLMNOPQRSTUVWXYZ0123456789 .,:;-_/+*()=?!" t_sg)))
    (wl_g : PySem.W.nsIn K mainGlobals "BadLine" = some (some (.ref CL)))
    (wl_l : K.lookup CL = some (excClassObj nmWL qWL CL NWL bsWL [.ref CE, .type "ValueError", .type "Exception", .type "BaseException", .type "object"] true snWL subWL abWL colWL ddWL w0L w1L w2L w3L w5L "ValueError.__new__"))
    (wl_sa : PySem.W.findIn K (.ref CL) "__setattr__" = some (some (.builtin "object.__setattr__")))
    (wl_ga : PySem.W.findIn K (.ref CL) "__getattribute__" = some (some (.builtin "BaseException.__getattribute__")))
    (wl_gg : PySem.W.findIn K (.ref CL) "__getattr__" = some none)
    (wl_no : PySem.W.findIn K (.ref CL) "index" = some none)
    (wl_i : PySem.W.findIn K (.ref CL) "__init__" = some (some (.ref fI)))
    (wl_ti : PySem.W.typeIn K (.ref fI) = some (.type "function"))
    (wl_k : PySem.W.keepIn K (.ref CL) = true)
    (wl_ex : PySem.W.subIn K (.ref CL) (.type "BaseException") = some true)
    (wl_ty : PySem.W.typeIn K (.ref CL) = some (.type "type"))
    (wl_hd : PySem.W.hasDictIn K CL = true)
    (wl_su : PySem.W.ks_superIn K CL CL "__init__" = some (some (.builtin "ValueError.__init__")))
    (wl_self : PySem.W.mroIn K CL (.ref CL) = some true)
    (wl_ve : PySem.W.subIn K (.ref CL) (.type "ValueError") = some true)
    (wl_fn : K.lookup fI = some ⟨ocWL, odWL, .func (PySem.W.ksFn "__init__" qIL (PySem.WrI.iA p1L p2L) (PySem.WrI.iB txL q1L q2L q3L q4L q5L q6L q7L q8L q9L r1L r2L r3L r4L) PySem.WrI.iS .none .none docWL pmWL anWL (.ref cdaL) ctWL ccL), oslWL⟩)
    (wl_cd : PySem.W.codeIn K (.ref cdaL) qIL = true)
    (wl_cda : K.lookup cdaL = some ⟨cclL, cddL, .fields vsWL, ccsL⟩)
    (wl_vs : vsWL[2]? = some (.str fileL tfL))
    (wl_file : ((l.prog.main.file : Str) == fileL) = true)
    (wl_cc : K.lookup ccL = some ⟨clWL, cldWL, .cell (some (.ref CL)), cslWL⟩)
    (wl_len : txL.length ≤ 1000)
    (wl_line : (q3L.endLine == q8L.line) = true)
    (wl_w : PySem.W.subIn K (.ref CL) (.ref CE) = some true)
    (wl_ha : PySem.W.findIn K (.ref CL) "__class__" = some (some (.builtin "object.__class__")))
    (wl_hm : PySem.W.mroIn K CL (.type "object") = some true)
    (ws_g : PySem.W.nsIn K mainGlobals "BadSteps" = some (some (.ref CS)))
    (ws_l : K.lookup CS = some (excClassObj nmWS qWS CS NWS bsWS [.ref CE, .type "ValueError", .type "Exception", .type "BaseException", .type "object"] true snWS subWS abWS colWS ddWS w0S w1S w2S w3S w5S "ValueError.__new__"))
    (ws_sa : PySem.W.findIn K (.ref CS) "__setattr__" = some (some (.builtin "object.__setattr__")))
    (ws_ga : PySem.W.findIn K (.ref CS) "__getattribute__" = some (some (.builtin "BaseException.__getattribute__")))
    (ws_gg : PySem.W.findIn K (.ref CS) "__getattr__" = some none)
    (ws_no : PySem.W.findIn K (.ref CS) "index" = some none)
    (ws_i : PySem.W.findIn K (.ref CS) "__init__" = some (some (.ref fJ)))
    (ws_ti : PySem.W.typeIn K (.ref fJ) = some (.type "function"))
    (ws_k : PySem.W.keepIn K (.ref CS) = true)
    (ws_ex : PySem.W.subIn K (.ref CS) (.type "BaseException") = some true)
    (ws_ty : PySem.W.typeIn K (.ref CS) = some (.type "type"))
    (ws_hd : PySem.W.hasDictIn K CS = true)
    (ws_su : PySem.W.ks_superIn K CS CS "__init__" = some (some (.builtin "ValueError.__init__")))
    (ws_self : PySem.W.mroIn K CS (.ref CS) = some true)
    (ws_ve : PySem.W.subIn K (.ref CS) (.type "ValueError") = some true)
    (ws_fn : K.lookup fJ = some ⟨ocWS, odWS, .func (PySem.W.ksFn "__init__" qIS (PySem.WrI.iA p1S p2S) (PySem.WrI.iB txS q1S q2S q3S q4S q5S q6S q7S q8S q9S r1S r2S r3S r4S) PySem.WrI.iS .none .none docWS pmWS anWS (.ref cdaS) ctWS ccS), oslWS⟩)
    (ws_cd : PySem.W.codeIn K (.ref cdaS) qIS = true)
    (ws_cda : K.lookup cdaS = some ⟨cclS, cddS, .fields vsWS, ccsS⟩)
    (ws_vs : vsWS[2]? = some (.str fileS tfS))
    (ws_file : ((l.prog.main.file : Str) == fileS) = true)
    (ws_cc : K.lookup ccS = some ⟨clWS, cldWS, .cell (some (.ref CS)), cslWS⟩)
    (ws_len : txS.length ≤ 1000)
    (ws_line : (q3S.endLine == q8S.line) = true)
    (ws_w : PySem.W.subIn K (.ref CS) (.ref CE) = some true)
    (ws_ha : PySem.W.findIn K (.ref CS) "__class__" = some (some (.builtin "object.__class__")))
    (ws_hm : PySem.W.mroIn K CS (.type "object") = some true)
    (w_op : PySem.W.nsIn K PySem.cStatics "thirdparty.any" = some none)
    (w_ms : PySem.W.nsIn K mainGlobals "super" = some none)
    (w_top : (l.prog.main.scope.names.lookup ("super" : Str)).isSome = false)
    (e_g : PySem.W.nsIn K mainGlobals "StoreError" = some (some (.ref CE)))
    (e_ex : PySem.W.subIn K (.ref CE) (.type "BaseException") = some true)
    (e_hd : PySem.W.hasDictIn K CE = true)
    (e_ty : PySem.W.typeIn K (.ref CE) = some (.type "type"))
    (x_hn : PySem.W.specialIn K (.builtin "object.__class__") "__get__" = some (some (.builtin "getset_descriptor.__get__")))
    (x_ht : PySem.W.takesIn K (.builtin "object.__class__") = some true)
    (i_FIG : PySem.W.nsIn K mainGlobals "FIGURES" = some (some (.str dgsS t_fig)))
    (d_g : PySem.W.nsIn K mainGlobals "FORMS" = some (some (.ref cF)))
    (d_l : K.lookup cF = some ⟨.type "dict", none, .dict es_d n_d, #[]⟩)
    (d_k : PySem.W.KeysLit w.params es_d.toList)
    (d_lo : (cF == sysModules) = false)
    (d_f : fmB K formsL es_d.toList = true)
    : ∃ fd : FuncData, (∀ (s : Shared) (v : Value), BindsTo s fd ⟨[v], []⟩ [("script", v)]) ∧ ∀ base : Heap, K.In base → base.Ns mainGlobals mg → FnOk l.prog w K mg base CX0 9 fa fd ["script"] (spLaw K) := by
  have e := hfa.symm.trans (PySem.W.mg_of X G a43)
  cases e
  have D_is_between := dfn_mk (st := sis_between) (ps := pis_between) X G a1 l1 c1 k1 fun _ _ _ _ _ _ us hl => match us, hl with | [_, _, _], _ => rfl
  have D_is_signs := dfn_mk (st := sis_signs) (ps := pis_signs) X G a2 l2 c2 k2 fun _ _ _ _ _ _ us hl => match us, hl with | [_, _, _], _ => rfl
  have D_is_value := dfn_mk (st := sis_value) (ps := pis_value) X G a3 l3 c3 k3 fun _ _ _ _ _ _ us hl => match us, hl with | [_], _ => rfl
  have D_is_figures := dfn_mk (st := sis_figures) (ps := pis_figures) X G a4 l4 c4 k4 fun _ _ _ _ _ _ us hl => match us, hl with | [_, _], _ => rfl
  have D_word_end := dfn_mk (st := sword_end) (ps := pword_end) X G a5 l5 c5 k5 fun _ _ _ _ _ _ us hl => match us, hl with | [_, _], _ => rfl
  have D_words_of := dfn_mk (st := swords_of) (ps := pwords_of) X G a6 l6 c6 k6 fun _ _ _ _ _ _ us hl => match us, hl with | [_], _ => rfl
  have D_count_told := dfn_mk (st := scount_told) (ps := pcount_told) X G a7 l7 c7 k7 fun _ _ _ _ _ _ us hl => match us, hl with | [_], _ => rfl
  have D_text_told := dfn_mk (st := stext_told) (ps := ptext_told) X G a8 l8 c8 k8 fun _ _ _ _ _ _ us hl => match us, hl with | [_], _ => rfl
  have D_integer_told := dfn_mk (st := sinteger_told) (ps := pinteger_told) X G a9 l9 c9 k9 fun _ _ _ _ _ _ us hl => match us, hl with | [_], _ => rfl
  have D_is_value_word := dfn_mk (st := sis_value_word) (ps := pis_value_word) X G a10 l10 c10 k10 fun _ _ _ _ _ _ us hl => match us, hl with | [_], _ => rfl
  have D_value_told := dfn_mk (st := svalue_told) (ps := pvalue_told) X G a11 l11 c11 k11 fun _ _ _ _ _ _ us hl => match us, hl with | [_], _ => rfl
  have D_text_word := dfn_mk (st := stext_word) (ps := ptext_word) X G a12 l12 c12 k12 fun _ _ _ _ _ _ us hl => match us, hl with | [_], _ => rfl
  have D_value_word := dfn_mk (st := svalue_word) (ps := pvalue_word) X G a13 l13 c13 k13 fun _ _ _ _ _ _ us hl => match us, hl with | [_], _ => rfl
  have D_is_key := dfn_mk (st := sis_key) (ps := pis_key) X G a14 l14 c14 k14 fun _ _ _ _ _ _ us hl => match us, hl with | [_], _ => rfl
  have D_is_count := dfn_mk (st := sis_count) (ps := pis_count) X G a15 l15 c15 k15 fun _ _ _ _ _ _ us hl => match us, hl with | [_], _ => rfl
  have D_is_part := dfn_mk (st := sis_part) (ps := pis_part) X G a16 l16 c16 k16 fun _ _ _ _ _ _ us hl => match us, hl with | [_, _], _ => rfl
  have D_is_pair := dfn_mk (st := sis_pair) (ps := pis_pair) X G a17 l17 c17 k17 fun _ _ _ _ _ _ us hl => match us, hl with | [_], _ => rfl
  have D_is_world_step := dfn_mk (st := sis_world_step) (ps := pis_world_step) X G a18 l18 c18 k18 fun _ _ _ _ _ _ us hl => match us, hl with | [_], _ => rfl
  have D_is_step := dfn_mk (st := sis_step) (ps := pis_step) X G a19 l19 c19 k19 fun _ _ _ _ _ _ us hl => match us, hl with | [_], _ => rfl
  have D_check_steps := dfn_mk (st := scheck_steps) (ps := pcheck_steps) X G a20 l20 c20 k20 fun _ _ _ _ _ _ us hl => match us, hl with | [_], _ => rfl
  have D_part_word := dfn_mk (st := spart_word) (ps := ppart_word) X G a21 l21 c21 k21 fun _ _ _ _ _ _ us hl => match us, hl with | [_, _], _ => rfl
  have D_line_of := dfn_mk (st := sline_of) (ps := pline_of) X G a22 l22 c22 k22 fun _ _ _ _ _ _ us hl => match us, hl with | [_], _ => rfl
  have D_is_part_word := dfn_mk (st := sis_part_word) (ps := pis_part_word) X G a23 l23 c23 k23 fun _ _ _ _ _ _ us hl => match us, hl with | [_, _], _ => rfl
  have D_part_told := dfn_mk (st := spart_told) (ps := ppart_told) X G a24 l24 c24 k24 fun _ _ _ _ _ _ us hl => match us, hl with | [_, _], _ => rfl
  have D_link_told := dfn_mk (st := slink_told) (ps := plink_told) X G a25 l25 c25 k25 fun _ _ _ _ _ _ us hl => match us, hl with | [_], _ => rfl
  have D_world_told := dfn_mk (st := sworld_told) (ps := pworld_told) X G a26 l26 c26 k26 fun _ _ _ _ _ _ us hl => match us, hl with | [_], _ => rfl
  have D_step_told := dfn_mk (st := sstep_told) (ps := pstep_told) X G a27 l27 c27 k27 fun _ _ _ _ _ _ us hl => match us, hl with | [_], _ => rfl
  have D_write_script := dfn_mk (st := swrite_script) (ps := pwrite_script) X G a28 l28 c28 k28 fun _ _ _ _ _ _ us hl => match us, hl with | [_], _ => rfl
  have D_read_script := dfn_mk (st := sread_script) (ps := pread_script) X G a29 l29 c29 k29 fun _ _ _ _ _ _ us hl => match us, hl with | [_], _ => rfl
  have D__law_taken := dfn_mk (st := s_law_taken) (ps := p_law_taken) X G a30 l30 c30 k30 fun _ _ _ _ _ _ us hl => match us, hl with | [_, _], _ => rfl
  have D__law_links := dfn_mk (st := s_law_links) (ps := p_law_links) X G a31 l31 c31 k31 fun _ _ _ _ _ _ us hl => match us, hl with | [_, _], _ => rfl
  have D__law_pick := dfn_mk (st := s_law_pick) (ps := p_law_pick) X G a32 l32 c32 k32 fun _ _ _ _ _ _ us hl => match us, hl with | [_, _], _ => rfl
  have D__law_some_key := dfn_mk (st := s_law_some_key) (ps := p_law_some_key) X G a33 l33 c33 k33 fun _ _ _ _ _ _ us hl => match us, hl with | [_], _ => rfl
  have D__law_signs_row := dfn_mk (st := s_law_signs_row) (ps := p_law_signs_row) X G a34 l34 c34 k34 fun _ _ _ _ _ _ us hl => match us, hl with | [], _ => rfl
  have D__law_some_text := dfn_mk (st := s_law_some_text) (ps := p_law_some_text) X G a35 l35 c35 k35 fun _ _ _ _ _ _ us hl => match us, hl with | [_, _], _ => rfl
  have D__law_signed := dfn_mk (st := s_law_signed) (ps := p_law_signed) X G a36 l36 c36 k36 fun _ _ _ _ _ _ us hl => match us, hl with | [_, _], _ => rfl
  have D__law_some_value := dfn_mk (st := s_law_some_value) (ps := p_law_some_value) X G a37 l37 c37 k37 fun _ _ _ _ _ _ us hl => match us, hl with | [_], _ => rfl
  have D__law_step := dfn_mk (st := s_law_step) (ps := p_law_step) X G a38 l38 c38 k38 fun _ _ _ _ _ _ us hl => match us, hl with | [_, _], _ => rfl
  have D__law_script := dfn_mk (st := s_law_script) (ps := p_law_script) X G a39 l39 c39 k39 fun _ _ _ _ _ _ us hl => match us, hl with | [_], _ => rfl
  have D__law_value_word := dfn_mk (st := s_law_value_word) (ps := p_law_value_word) X G a40 l40 c40 k40 fun _ _ _ _ _ _ us hl => match us, hl with | [_], _ => rfl
  have D__law_line := dfn_mk (st := s_law_line) (ps := p_law_line) X G a41 l41 c41 k41 fun _ _ _ _ _ _ us hl => match us, hl with | [_], _ => rfl
  have D__law_alike := dfn_mk (st := s_law_alike) (ps := p_law_alike) X G a42 l42 c42 k42 fun _ _ _ _ _ _ us hl => match us, hl with | [_, _], _ => rfl
  have D_law := dfn_mk (st := slaw) (ps := plaw) X G a43 l43 c43 k43 fun _ _ _ _ _ _ us hl => match us, hl with | [_], _ => rfl
  have B : Bi mg := ⟨PySem.W.mg_none_of X G z_len, PySem.W.mg_none_of X G z_int, PySem.W.mg_none_of X G z_range, PySem.W.mg_none_of X G z_tuple, PySem.W.mg_none_of X G z_list, PySem.W.mg_none_of X G z_isinstance, PySem.W.mg_none_of X G z_zip, PySem.W.mg_none_of X G z_type, PySem.W.mg_none_of X G z_str, PySem.W.mg_none_of X G z_bool, PySem.W.mg_none_of X G z_all, PySem.W.mg_none_of X G z_min, PySem.W.mg_none_of X G z_max⟩
  have T_Sx : Sx mg := ⟨B, ⟨_, PySem.W.mg_of X G i_sg⟩, ⟨_, PySem.W.mg_of X G i_MOST_SIGNS⟩, ⟨_, PySem.W.mg_of X G i_MOST_INTEGER⟩⟩
  have TI_BadLine : PySem.WrI.WrTxt l.prog K mg "BadLine" CL fI := ⟨PySem.W.mg_of X G wl_g, ⟨nmWL, qWL, NWL, bsWL, _, snWL, subWL, abWL, colWL, ddWL, w0L, w1L, w2L, w3L, w5L, wl_l, by rfl⟩, wl_sa, wl_ga, wl_gg, wl_no, wl_i, wl_ti, wl_k, wl_ex, wl_ty, wl_hd, wl_su, w_op, PySem.W.mg_none_of X G w_ms, w_top, wl_self, wl_ve, ⟨ocWL, odWL, qIL, docWL, pmWL, anWL, cdaL, ccL, ctWL, oslWL, txL, p1L, p2L, q1L, q2L, q3L, q4L, q5L, q6L, q7L, q8L, q9L, r1L, r2L, r3L, r4L, cclL, cddL, vsWL, ccsL, fileL, tfL, clWL, cldWL, cslWL, wl_fn, wl_cd, wl_cda, wl_vs, wl_file, wl_cc, wl_len, wl_line⟩⟩
  have TI_BadSteps : PySem.WrI.WrTxt l.prog K mg "BadSteps" CS fJ := ⟨PySem.W.mg_of X G ws_g, ⟨nmWS, qWS, NWS, bsWS, _, snWS, subWS, abWS, colWS, ddWS, w0S, w1S, w2S, w3S, w5S, ws_l, by rfl⟩, ws_sa, ws_ga, ws_gg, ws_no, ws_i, ws_ti, ws_k, ws_ex, ws_ty, ws_hd, ws_su, w_op, PySem.W.mg_none_of X G w_ms, w_top, ws_self, ws_ve, ⟨ocWS, odWS, qIS, docWS, pmWS, anWS, cdaS, ccS, ctWS, oslWS, txS, p1S, p2S, q1S, q2S, q3S, q4S, q5S, q6S, q7S, q8S, q9S, r1S, r2S, r3S, r4S, cclS, cddS, vsWS, ccsS, fileS, tfS, clWS, cldWS, cslWS, ws_fn, ws_cd, ws_cda, ws_vs, ws_file, ws_cc, ws_len, ws_line⟩⟩
  have TN_BadSteps : PySem.WrN.WrTxt l.prog K mg "BadSteps" CS fJ := ⟨PySem.W.mg_of X G ws_g, ⟨nmWS, qWS, NWS, bsWS, _, snWS, subWS, abWS, colWS, ddWS, w0S, w1S, w2S, w3S, w5S, ws_l, by rfl⟩, ws_sa, ws_ga, ws_gg, ws_no, ws_i, ws_ti, ws_k, ws_ex, ws_ty, ws_hd, ws_su, w_op, PySem.W.mg_none_of X G w_ms, w_top, ws_self, ws_ve, ⟨ocWS, odWS, qIS, docWS, pmWS, anWS, cdaS, ccS, ctWS, oslWS, txS, p1S, p2S, q1S, q2S, q3S, q4S, q5S, q6S, q7S, q8S, q9S, r1S, r2S, r3S, r4S, cclS, cddS, vsWS, ccsS, fileS, tfS, clWS, cldWS, cslWS, ws_fn, ws_cd, ws_cda, ws_vs, ws_file, ws_cc, ws_len, ws_line⟩⟩
  have ER : ErU K mg CE CL CS := ⟨PySem.W.mg_of X G e_g, PySem.W.exm_ref e_ex e_hd e_ty wl_w, ⟨wl_ga, wl_gg, wl_ex, wl_hd, wl_ha, x_hn, x_ht, wl_hm⟩, PySem.W.exm_ref e_ex e_hd e_ty ws_w, ⟨ws_ga, ws_gg, ws_ex, ws_hd, ws_ha, x_hn, x_ht, ws_hm⟩⟩
  have FG : mg "FORMS" = some (.ref cF) := PySem.W.mg_of X G d_g
  have FM : Fm K w cF := fm_of d_l d_k d_lo d_f
  exact ⟨PySem.W.fnOf "law" "law" (defArgs slaw) (defBody slaw) (defScope slaw) .none kV43 dc43 pm43 an43 cd43 ct43, fun s v => .of_eq rfl, fun base _ _ => ok_law D_law B ER TI_BadLine TI_BadSteps D__law_script (ok_scr D__law_script B D__law_taken (ok_taken D__law_taken B) D__law_step (ok_stD D__law_step D__law_taken (ok_taken D__law_taken B) D__law_pick (ok_pick D__law_pick B D__law_taken) D__law_some_key (ok_kyD D__law_some_key D__law_pick (ok_pick D__law_pick B D__law_taken)) D__law_some_value (ok_sv D__law_some_value D__law_taken (ok_taken D__law_taken B) D__law_pick (ok_pick D__law_pick B D__law_taken) D__law_some_text (ok_st D__law_some_text B D__law_taken (ok_taken D__law_taken B) D__law_pick (ok_pick D__law_pick B D__law_taken) D__law_signs_row) D__law_signed (ok_sgd D__law_signed D__law_taken (ok_taken D__law_taken B)))) D__law_links (ok_lks D__law_links B (PySem.W.mg_none_of X G z_sorted) (PySem.W.mg_none_of X G z_set) D__law_taken (ok_taken D__law_taken B))) D__law_line (ok_lln D__law_line B D__law_value_word (ok_lvw D__law_value_word B)) D__law_taken (ok_taken D__law_taken B) D__law_pick (ok_pick D__law_pick B D__law_taken) D__law_alike (ok_alike D__law_alike B 4 (by decide)) D_write_script (ok_wsc D_write_script D_check_steps (ok_cst D_check_steps B (PySem.W.mg_none_of X G z_enumerate) ⟨_, PySem.W.mg_of X G i_MOST_STEPS⟩ TI_BadSteps TN_BadSteps D_is_step (ok_isSt D_is_step B FG FM D_is_world_step (ok_ws D_is_world_step B D_is_count (ok_cntD D_is_count ⟨_, PySem.W.mg_of X G i_MOST_COUNT⟩ D_is_between (ok_btwD D_is_between B)) D_is_pair (ok_pair D_is_pair B D_is_count (ok_cntD D_is_count ⟨_, PySem.W.mg_of X G i_MOST_COUNT⟩ D_is_between (ok_btwD D_is_between B)))) D_is_part (ok_part D_is_part D_is_count (ok_cntD D_is_count ⟨_, PySem.W.mg_of X G i_MOST_COUNT⟩ D_is_between (ok_btwD D_is_between B)) D_is_key (ok_keyA D_is_key ⟨_, PySem.W.mg_of X G i_MOST_KEY⟩ D_is_signs (ok_sgA D_is_signs T_Sx)) D_is_value (ok_ivA D_is_value T_Sx D_is_between D_is_signs)))) D_line_of (ok_ln D_line_of B FG FM D_part_word (ok_pw D_part_word B D_text_word (ok_tw D_text_word) D_value_word (ok_vw D_value_word B D_text_word)))) D_read_script (ok_rs D_read_script B (PySem.W.mg_none_of X G z_enumerate) ⟨_, PySem.W.mg_of X G i_MOST_STEPS⟩ TI_BadLine D_step_told (ok_std D_step_told B FG FM D_words_of (ok_wo D_words_of B D_word_end) D_world_told (ok_wt D_world_told B D_count_told (ok_cntT D_count_told B ⟨_, PySem.W.mg_of X G i_FIG⟩ ⟨_, PySem.W.mg_of X G i_MOST_FIGURES⟩ D_is_figures) D_is_part_word (ok_ipw D_is_part_word D_is_count (ok_cntD D_is_count ⟨_, PySem.W.mg_of X G i_MOST_COUNT⟩ D_is_between (ok_btwD D_is_between B)) D_count_told (ok_cntT D_count_told B ⟨_, PySem.W.mg_of X G i_FIG⟩ ⟨_, PySem.W.mg_of X G i_MOST_FIGURES⟩ D_is_figures) D_text_told (ok_txtT D_text_told T_Sx D_is_signs) D_is_key (ok_keyA D_is_key ⟨_, PySem.W.mg_of X G i_MOST_KEY⟩ D_is_signs (ok_sgA D_is_signs T_Sx)) D_is_value_word (ok_ivw D_is_value_word D_integer_told (ok_intT D_integer_told B D_count_told (ok_cntT D_count_told B ⟨_, PySem.W.mg_of X G i_FIG⟩ ⟨_, PySem.W.mg_of X G i_MOST_FIGURES⟩ D_is_figures) D_is_value (ok_ivA D_is_value T_Sx D_is_between D_is_signs)) D_text_told (ok_txtT D_text_told T_Sx D_is_signs))) D_link_told (ok_lkt D_link_told D_count_told (ok_cntT D_count_told B ⟨_, PySem.W.mg_of X G i_FIG⟩ ⟨_, PySem.W.mg_of X G i_MOST_FIGURES⟩ D_is_figures) D_is_pair (ok_pair D_is_pair B D_is_count (ok_cntD D_is_count ⟨_, PySem.W.mg_of X G i_MOST_COUNT⟩ D_is_between (ok_btwD D_is_between B))))) D_is_part_word (ok_ipw D_is_part_word D_is_count (ok_cntD D_is_count ⟨_, PySem.W.mg_of X G i_MOST_COUNT⟩ D_is_between (ok_btwD D_is_between B)) D_count_told (ok_cntT D_count_told B ⟨_, PySem.W.mg_of X G i_FIG⟩ ⟨_, PySem.W.mg_of X G i_MOST_FIGURES⟩ D_is_figures) D_text_told (ok_txtT D_text_told T_Sx D_is_signs) D_is_key (ok_keyA D_is_key ⟨_, PySem.W.mg_of X G i_MOST_KEY⟩ D_is_signs (ok_sgA D_is_signs T_Sx)) D_is_value_word (ok_ivw D_is_value_word D_integer_told (ok_intT D_integer_told B D_count_told (ok_cntT D_count_told B ⟨_, PySem.W.mg_of X G i_FIG⟩ ⟨_, PySem.W.mg_of X G i_MOST_FIGURES⟩ D_is_figures) D_is_value (ok_ivA D_is_value T_Sx D_is_between D_is_signs)) D_text_told (ok_txtT D_text_told T_Sx D_is_signs))) D_part_told (ok_ptd D_part_told D_count_told (ok_cntT D_count_told B ⟨_, PySem.W.mg_of X G i_FIG⟩ ⟨_, PySem.W.mg_of X G i_MOST_FIGURES⟩ D_is_figures) D_text_told (ok_txtT D_text_told T_Sx D_is_signs) D_value_told (ok_vt D_value_told D_integer_told (ok_intT D_integer_told B D_count_told (ok_cntT D_count_told B ⟨_, PySem.W.mg_of X G i_FIG⟩ ⟨_, PySem.W.mg_of X G i_MOST_FIGURES⟩ D_is_figures) D_is_value (ok_ivA D_is_value T_Sx D_is_between D_is_signs)) D_text_told (ok_txtT D_text_told T_Sx D_is_signs)))))⟩
end K19
open PySem PySem.W PyProof.Rows
set_option maxRecDepth 100000 in
set_option maxHeartbeats 0 in
theorem PySem.Challenge.cw_meetstores_k19_whole_scripts_as_text_holds : PySem.Challenge.rw_meetstores_k19_whole_scripts_as_text.Holds := by
  w_on; o_law; k_head; (case hw => w_witness2)
  k_fill
  refine L2.walk_of (l := PySem.Challenge.rw_meetstores_k19_whole_scripts_as_text) (n := 63) (k := 9) (x := "script") (CX := fun _ => L2.CX0) (sp := fun w => K19.spLaw _) rfl (by decide) rfl ⟨rfl, by decide, by decide⟩ (fun w h Y => PySem.W.kIn_of Y) ?F (fun _ _ a ns hl _ hS => ⟨a, ns, rfl, hS, hl, fun _ => rfl⟩) (fun _ _ _ _ _ h => h)
  case F =>
    intro w mg fa h KX G hmg
    refine' K19.all_mk KX G hmg ?a1 ?l1 ?c1 ?k1 ?a2 ?l2 ?c2 ?k2 ?a3 ?l3 ?c3 ?k3 ?a4 ?l4 ?c4 ?k4 ?a5 ?l5 ?c5 ?k5 ?a6 ?l6 ?c6 ?k6 ?a7 ?l7 ?c7 ?k7 ?a8 ?l8 ?c8 ?k8 ?a9 ?l9 ?c9 ?k9 ?a10 ?l10 ?c10 ?k10 ?a11 ?l11 ?c11 ?k11 ?a12 ?l12 ?c12 ?k12 ?a13 ?l13 ?c13 ?k13 ?a14 ?l14 ?c14 ?k14 ?a15 ?l15 ?c15 ?k15 ?a16 ?l16 ?c16 ?k16 ?a17 ?l17 ?c17 ?k17 ?a18 ?l18 ?c18 ?k18 ?a19 ?l19 ?c19 ?k19 ?a20 ?l20 ?c20 ?k20 ?a21 ?l21 ?c21 ?k21 ?a22 ?l22 ?c22 ?k22 ?a23 ?l23 ?c23 ?k23 ?a24 ?l24 ?c24 ?k24 ?a25 ?l25 ?c25 ?k25 ?a26 ?l26 ?c26 ?k26 ?a27 ?l27 ?c27 ?k27 ?a28 ?l28 ?c28 ?k28 ?a29 ?l29 ?c29 ?k29 ?a30 ?l30 ?c30 ?k30 ?a31 ?l31 ?c31 ?k31 ?a32 ?l32 ?c32 ?k32 ?a33 ?l33 ?c33 ?k33 ?a34 ?l34 ?c34 ?k34 ?a35 ?l35 ?c35 ?k35 ?a36 ?l36 ?c36 ?k36 ?a37 ?l37 ?c37 ?k37 ?a38 ?l38 ?c38 ?k38 ?a39 ?l39 ?c39 ?k39 ?a40 ?l40 ?c40 ?k40 ?a41 ?l41 ?c41 ?k41 ?a42 ?l42 ?c42 ?k42 ?a43 ?l43 ?c43 ?k43 ?i_MOST_SIGNS ?i_MOST_INTEGER ?i_MOST_COUNT ?i_MOST_FIGURES ?i_MOST_KEY ?i_MOST_STEPS ?z_len ?z_int ?z_range ?z_tuple ?z_list ?z_isinstance ?z_zip ?z_type ?z_str ?z_bool ?z_all ?z_min ?z_max ?z_enumerate ?z_set ?z_sorted ?i_sg ?wl_g ?wl_l ?wl_sa ?wl_ga ?wl_gg ?wl_no ?wl_i ?wl_ti ?wl_k ?wl_ex ?wl_ty ?wl_hd ?wl_su ?wl_self ?wl_ve ?wl_fn ?wl_cd ?wl_cda ?wl_vs ?wl_file ?wl_cc ?wl_len ?wl_line ?wl_w ?wl_ha ?wl_hm ?ws_g ?ws_l ?ws_sa ?ws_ga ?ws_gg ?ws_no ?ws_i ?ws_ti ?ws_k ?ws_ex ?ws_ty ?ws_hd ?ws_su ?ws_self ?ws_ve ?ws_fn ?ws_cd ?ws_cda ?ws_vs ?ws_file ?ws_cc ?ws_len ?ws_line ?ws_w ?ws_ha ?ws_hm ?w_op ?w_ms ?w_top ?e_g ?e_ex ?e_hd ?e_ty ?x_hn ?x_ht ?i_FIG ?d_g ?d_l ?d_k ?d_lo ?d_f
    (case a1 => k_is)
    (case l1 => k_is)
    (case c1 => k_is)
    (case k1 => k_is)
    (case a2 => k_is)
    (case l2 => k_is)
    (case c2 => k_is)
    (case k2 => k_is)
    (case a3 => k_is)
    (case l3 => k_is)
    (case c3 => k_is)
    (case k3 => k_is)
    (case a4 => k_is)
    (case l4 => k_is)
    (case c4 => k_is)
    (case k4 => k_is)
    (case a5 => k_is)
    (case l5 => k_is)
    (case c5 => k_is)
    (case k5 => k_is)
    (case a6 => k_is)
    (case l6 => k_is)
    (case c6 => k_is)
    (case k6 => k_is)
    (case a7 => k_is)
    (case l7 => k_is)
    (case c7 => k_is)
    (case k7 => k_is)
    (case a8 => k_is)
    (case l8 => k_is)
    (case c8 => k_is)
    (case k8 => k_is)
    (case a9 => k_is)
    (case l9 => k_is)
    (case c9 => k_is)
    (case k9 => k_is)
    (case a10 => k_is)
    (case l10 => k_is)
    (case c10 => k_is)
    (case k10 => k_is)
    (case a11 => k_is)
    (case l11 => k_is)
    (case c11 => k_is)
    (case k11 => k_is)
    (case a12 => k_is)
    (case l12 => k_is)
    (case c12 => k_is)
    (case k12 => k_is)
    (case a13 => k_is)
    (case l13 => k_is)
    (case c13 => k_is)
    (case k13 => k_is)
    (case a14 => k_is)
    (case l14 => k_is)
    (case c14 => k_is)
    (case k14 => k_is)
    (case a15 => k_is)
    (case l15 => k_is)
    (case c15 => k_is)
    (case k15 => k_is)
    (case a16 => k_is)
    (case l16 => k_is)
    (case c16 => k_is)
    (case k16 => k_is)
    (case a17 => k_is)
    (case l17 => k_is)
    (case c17 => k_is)
    (case k17 => k_is)
    (case a18 => k_is)
    (case l18 => k_is)
    (case c18 => k_is)
    (case k18 => k_is)
    (case a19 => k_is)
    (case l19 => k_is)
    (case c19 => k_is)
    (case k19 => k_is)
    (case a20 => k_is)
    (case l20 => k_is)
    (case c20 => k_is)
    (case k20 => k_is)
    (case a21 => k_is)
    (case l21 => k_is)
    (case c21 => k_is)
    (case k21 => k_is)
    (case a22 => k_is)
    (case l22 => k_is)
    (case c22 => k_is)
    (case k22 => k_is)
    (case a23 => k_is)
    (case l23 => k_is)
    (case c23 => k_is)
    (case k23 => k_is)
    (case a24 => k_is)
    (case l24 => k_is)
    (case c24 => k_is)
    (case k24 => k_is)
    (case a25 => k_is)
    (case l25 => k_is)
    (case c25 => k_is)
    (case k25 => k_is)
    (case a26 => k_is)
    (case l26 => k_is)
    (case c26 => k_is)
    (case k26 => k_is)
    (case a27 => k_is)
    (case l27 => k_is)
    (case c27 => k_is)
    (case k27 => k_is)
    (case a28 => k_is)
    (case l28 => k_is)
    (case c28 => k_is)
    (case k28 => k_is)
    (case a29 => k_is)
    (case l29 => k_is)
    (case c29 => k_is)
    (case k29 => k_is)
    (case a30 => k_is)
    (case l30 => k_is)
    (case c30 => k_is)
    (case k30 => k_is)
    (case a31 => k_is)
    (case l31 => k_is)
    (case c31 => k_is)
    (case k31 => k_is)
    (case a32 => k_is)
    (case l32 => k_is)
    (case c32 => k_is)
    (case k32 => k_is)
    (case a33 => k_is)
    (case l33 => k_is)
    (case c33 => k_is)
    (case k33 => k_is)
    (case a34 => k_is)
    (case l34 => k_is)
    (case c34 => k_is)
    (case k34 => k_is)
    (case a35 => k_is)
    (case l35 => k_is)
    (case c35 => k_is)
    (case k35 => k_is)
    (case a36 => k_is)
    (case l36 => k_is)
    (case c36 => k_is)
    (case k36 => k_is)
    (case a37 => k_is)
    (case l37 => k_is)
    (case c37 => k_is)
    (case k37 => k_is)
    (case a38 => k_is)
    (case l38 => k_is)
    (case c38 => k_is)
    (case k38 => k_is)
    (case a39 => k_is)
    (case l39 => k_is)
    (case c39 => k_is)
    (case k39 => k_is)
    (case a40 => k_is)
    (case l40 => k_is)
    (case c40 => k_is)
    (case k40 => k_is)
    (case a41 => k_is)
    (case l41 => k_is)
    (case c41 => k_is)
    (case k41 => k_is)
    (case a42 => k_is)
    (case l42 => k_is)
    (case c42 => k_is)
    (case k42 => k_is)
    (case a43 => k_is)
    (case l43 => k_is)
    (case c43 => k_is)
    (case k43 => k_is)
    (case i_MOST_SIGNS => k_is)
    (case i_MOST_INTEGER => k_is)
    (case i_MOST_COUNT => k_is)
    (case i_MOST_FIGURES => k_is)
    (case i_MOST_KEY => k_is)
    (case i_MOST_STEPS => k_is)
    (case z_len => k_is)
    (case z_int => k_is)
    (case z_range => k_is)
    (case z_tuple => k_is)
    (case z_list => k_is)
    (case z_isinstance => k_is)
    (case z_zip => k_is)
    (case z_type => k_is)
    (case z_str => k_is)
    (case z_bool => k_is)
    (case z_all => k_is)
    (case z_min => k_is)
    (case z_max => k_is)
    (case z_enumerate => k_is)
    (case z_set => k_is)
    (case z_sorted => k_is)
    (case i_sg => k_is)
    (case wl_g => k_is)
    (case wl_l => k_is)
    (case wl_sa => k_is)
    (case wl_ga => k_is)
    (case wl_gg => k_is)
    (case wl_no => k_is)
    (case wl_i => k_is)
    (case wl_ti => k_is)
    (case wl_k => k_is)
    (case wl_ex => k_is)
    (case wl_ty => k_is)
    (case wl_hd => k_is)
    (case wl_su => ks_is)
    (case wl_self => k_is)
    (case wl_ve => k_is)
    (case wl_fn => k_is)
    (case wl_cd => k_is)
    (case wl_cda => k_is)
    (case wl_vs => rfl)
    (case wl_file => first | rfl | decide +kernel)
    (case wl_cc => k_is)
    (case wl_len => first | decide | decide +kernel)
    (case wl_line => first | rfl | decide)
    (case wl_w => k_is)
    (case wl_ha => k_is)
    (case wl_hm => k_is)
    (case ws_g => k_is)
    (case ws_l => k_is)
    (case ws_sa => k_is)
    (case ws_ga => k_is)
    (case ws_gg => k_is)
    (case ws_no => k_is)
    (case ws_i => k_is)
    (case ws_ti => k_is)
    (case ws_k => k_is)
    (case ws_ex => k_is)
    (case ws_ty => k_is)
    (case ws_hd => k_is)
    (case ws_su => ks_is)
    (case ws_self => k_is)
    (case ws_ve => k_is)
    (case ws_fn => k_is)
    (case ws_cd => k_is)
    (case ws_cda => k_is)
    (case ws_vs => rfl)
    (case ws_file => first | rfl | decide +kernel)
    (case ws_cc => k_is)
    (case ws_len => first | decide | decide +kernel)
    (case ws_line => first | rfl | decide)
    (case ws_w => k_is)
    (case ws_ha => k_is)
    (case ws_hm => k_is)
    (case w_op => k_is)
    (case w_ms => k_is)
    (case w_top => first | rfl | decide +kernel)
    (case e_g => k_is)
    (case e_ex => k_is)
    (case e_hd => k_is)
    (case e_ty => k_is)
    (case x_hn => k_is)
    (case x_ht => k_is)
    (case i_FIG => k_is)
    (case d_g => k_is)
    (case d_l => k_is)
    (case d_k => first | exact ⟨⟨_, _, rfl, rfl⟩, ⟨_, _, rfl, rfl⟩, ⟨_, _, rfl, rfl⟩, ⟨_, _, rfl, rfl⟩, ⟨_, _, rfl, rfl⟩, ⟨_, _, rfl, rfl⟩, ⟨_, _, rfl, rfl⟩, ⟨_, _, rfl, rfl⟩, ⟨_, _, rfl, rfl⟩, ⟨_, _, rfl, rfl⟩, ⟨_, _, rfl, rfl⟩, ⟨_, _, rfl, rfl⟩, ⟨_, _, rfl, rfl⟩, ⟨_, _, rfl, rfl⟩, ⟨_, _, rfl, rfl⟩, trivial⟩ | k_is)
    (case d_lo => first | rfl | decide +kernel | k_is)
    (case d_f => first | rfl | decide +kernel | k_is)
