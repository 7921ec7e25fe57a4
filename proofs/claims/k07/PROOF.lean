import PyProof.Rows.All
import Wide.All
import OpenK.AllK
import Wide.FinOn
import HandS.ForMost
import HandS.IsInst
import HandS.Zip
import HandS.TupAny
import HandS.More
import HandS.Walk
import HandS.Conv
import HandS.ExcOwn
import HandS.ExcIs
import HandS.ExcField
import HandS.FStr
import KE.KExcSuper
import KE.KExcIs
import HandS.TryOnly
import HandS.TupMul
import KE.KTryMore
import HandS.List
import KE.GoesEnum
import KE.GoesMore
import HandS.Iter
import HandS.Strs
import HandS.SetFor
import HandS.WordsExc
import HandS.Wide
import HandS.Rev
import HandS.Style
import HandS.WideBits
import PySem.Challenge.RW_meetstores_k07_whole_roots
set_option Elab.async false
set_option linter.all false
set_option maxRecDepth 100000
set_option maxHeartbeats 4000000
namespace PySem
namespace WrX
open PySem.W PySem.Calls PyProof.Rows PySem.HandSPX
def iA (p1 p2 : Pos) : Arguments := { posonlyargs := [], args := [{ arg := "self", annotation := none, pos := p1 }, { arg := "place", annotation := none, pos := p2 }], vararg := none, kwonlyargs := [], kw_defaults := [], kwarg := none, defaults := [] }
def iB (tx : Str) (q1 q2 q3 q4 q5 q6 q7 q8 q9 r1 r2 r3 r4 : Pos) : List Stmt :=
  [.Expr (.Call (.Attribute (.Call (.Name "super" q1) [] [] q2) "__init__" q3) [.JoinedStr [.Constant (.str tx) 0 q4, .FormattedValue (.Name "place" q5) (-1) none q6] q7] [] q8) q9,
   .Assign [.Attribute (.Name "self" r1) "place" r2] (.Name "place" r3) r4]
def iS : Scope := { kind := .function, names := [(PySem.Str.ofString "self", .local), (PySem.Str.ofString "place", .local), (PySem.Str.ofString "__class__", .free), (PySem.Str.ofString "super", .globalImplicit)], isGenerator := false, isCoroutine := false, more := [] }
/-- what the written part says of the class at C, and of its __init__, at fI -/
structure WrTxt (P : Program) (K : Frag) (mg : Str → Option Value) (x : Str) (C fI : Addr) : Prop where
  gC : mg x = some (.ref C)
  cls : ∃ nm q N bs bm sn sub ab col dd k0 k1 k2 k3 k5, K.lookup C = some (excClassObj nm q C N bs bm true sn sub ab col dd k0 k1 k2 k3 k5 "ValueError.__new__") ∧ refsVE bm = true
  sa : findIn K (.ref C) "__setattr__" = some (some (.builtin "object.__setattr__"))
  ga : findIn K (.ref C) "__getattribute__" = some (some (.builtin "BaseException.__getattribute__"))
  gg : findIn K (.ref C) "__getattr__" = some none
  noN : findIn K (.ref C) "place" = some none
  iC : findIn K (.ref C) "__init__" = some (some (.ref fI))
  tC : typeIn K (.ref fI) = some (.type "function")
  kC : keepIn K (.ref C) = true
  exC : subIn K (.ref C) (.type "BaseException") = some true
  tyC : typeIn K (.ref C) = some (.type "type")
  hdC : hasDictIn K C = true
  su : ks_superIn K C C "__init__" = some (some (.builtin "ValueError.__init__"))
  opq : nsIn K cStatics "thirdparty.any" = some none
  msup : mg "super" = none
  top : (P.main.scope.names.lookup ("super" : Str)).isSome = false
  self : mroIn K C (.ref C) = some true
  inVE : subIn K (.ref C) (.type "ValueError") = some true
  fn : ∃ (oc : Value) (od : Option Addr) (q : Str) (doc pm : Value) (an : Option Addr) (cda cc : Addr) (ct : Value) (osl : Array (Option Value)) (tx : Str) (p1 p2 q1 q2 q3 q4 q5 q6 q7 q8 q9 r1 r2 r3 r4 : Pos)
    (ccl : Value) (cdd : Option Addr) (vs : Array Value) (ccs : Array (Option Value)) (file : Str) (tf : Tok) (cl : Value) (cld : Option Addr) (csl : Array (Option Value)),
    K.lookup fI = some ⟨oc, od, .func (ksFn "__init__" q (iA p1 p2) (iB tx q1 q2 q3 q4 q5 q6 q7 q8 q9 r1 r2 r3 r4) iS .none .none doc pm an (.ref cda) ct cc), osl⟩ ∧ codeIn K (.ref cda) q = true ∧
    K.lookup cda = some ⟨ccl, cdd, .fields vs, ccs⟩ ∧ vs[2]? = some (.str file tf) ∧ ((P.main.file : Str) == file) = true ∧ K.lookup cc = some ⟨cl, cld, .cell (some (.ref C)), csl⟩ ∧ tx.length ≤ 1000 ∧ (q3.endLine == q8.line) = true
/-- what __init__ leaves of a fresh exception at x -/
structure InitEnd (h h' : Heap) (x C dx t1 : Addr) (v : Value) : Prop where
  keep : ∀ b o, b ≠ x → h.get? b = some o → h'.get? b = some o
  obj : h'.get? x = some { cls := .ref C, dict := some dx, data := .fields #[.ref t1, .none, .none, .none, .bool false, .none] }
  dbig : h.objs.size ≤ dx
  dne : dx ≠ x
  ns : h'.Ns1 dx (fun y => if y = "place" then some v else none)
section
variable {prog : Program} {w : World} {A : Around} {E : Value → Shared → Prop} {R : Result → Shared → Prop} {s : Shared} {K : Frag} {mg : Str → Option Value} {xn : Str} {C fI : Addr}
theorem at_mcall {M : Model} {c : Code} {env : Env} {o : Expr} {name : Str} {apos pos : Pos} {args : List Expr} {Q : Value → Shared → Prop} (hline : (apos.endLine == pos.line) = true) (hform : methodCallForm (args.length + ([] : List Keyword).length) (backTo pos (starEach args env)) (backToKw pos (keywordEach [] env)) = true)
    (h : wpAt M A c (attributeBase o name env (eval o env)) (fun ov s₁ => wpAny M A (getMethod ov name (do return (← importBound o env).getD true)) (fun fx s₂ => wpAny M A (callWith pos fx.1 fx.2 (backTo pos (starEach args env)) []) Q E s₂) E s₁) E s) :
    wpAt M A c (eval (.Call (.Attribute o name apos) args [] pos) env) Q E s := by
  have hpos : methodCallPos true o env apos pos = pure pos := by unfold methodCallPos; simp [hline]
  rw [arm_eval_Call]
  refine wpAt_bind (wpAt_mono h (fun ov s₁ h₁ => wpAt_of_wpAny (wpAny_bind (wpAny_standAt ?_))) fun _ _ x => x)
  unfold methodCall
  rw [hform, hpos]
  refine wpAny_bind (wpAny_holding (wpAny_mono h₁ (fun fx s₂ h₂ => ?_) fun _ _ x => x))
  exact wpAny_bind (wpAny_pure h₂)
/-- ValueError.__init__ of the bound wrapper -/
theorem call_mw {u e t0 : Addr} {rest : List Value} {Q : Value → Shared → Prop} {h : Heap} {g : Array GenState} {d : Drawn} {t : Nat} {os : OsState}
    {nm q : Str} {N : Addr} {bs bm : List Value} {sn : List Str} {sub : List Value} {ab : Bool} {col : Option Bool} {dd : Option Addr} {k0 k1 k2 k3 k5 : Option Value}
    (hC : h.get? C = some (excClassObj nm q C N bs bm true sn sub ab col dd k0 k1 k2 k3 k5 "ValueError.__new__")) (he : h.get? e = some (excO C t0)) (hu : h.get? u = some (kxs_mw "ValueError.__init__" e)) (hrest : rest.length ≤ sizeLine)
    (hq : ∀ h' t1, (∀ b o, b ≠ e → h.get? b = some o → h'.get? b = some o) → h'.get? e = some (excO C t1) → Q .none ⟨h', g, d, t, os⟩) :
    wpAny (model prog w) A (call (.ref u) rest) Q E ⟨h, g, d, t, os⟩ := by
  refine wpAny_call (codeAny_of_tree ?_)
  show wpAny _ A.in1 (callAny (.ref u) ⟨rest, []⟩) _ _ _
  simp only [callAny]
  refine wpAny_bind (wpAny_load hu ?_)
  simp only [kxs_mw, show (Value.type "method-wrapper" == Value.type "method" || Value.type "method-wrapper" == Value.type "builtin_function_or_method" || Value.type "method-wrapper" == Value.type "method-wrapper") = true by decide, if_true]
  refine W.KFB.if_so (by decide) ?_
  refine wpAny_bind (check_bound_init F.excBase_ValueError.toExcCallFacts hC he rfl ?_)
  refine wpAny_bind (wpAny_pure (wpAny_pure ?_))
  refine ⟨plainId_quiet F.excBase_ValueError.init.plain _, codeAny_builtin F.excBase_ValueError.initEntry ?_⟩
  rw [Around.under_plainId F.excBase_ValueError.init.plain _]
  wp_walk
  refine hq _ h.objs.size (fun b o hb ho => ?_) ?_
  · rw [Heap.get?_update_other _ _ (Ne.symm hb)]
    exact Heap.get?_push_of_some _ ho
  · rw [Heap.get?_update_self _ (Heap.get?_push_of_some _ he) rfl]
    rfl

/-- __init__(self, place) of an int -/
theorem wrong_init (T : WrTxt prog K mg xn C fI) {x t0 : Addr} {n : Int} {tn : Tok} (X : K.In s.heap) (G : s.heap.Ns mainGlobals mg) (B : ∃ mb, s.heap.Ns builtinsNs mb ∧ ∀ x : Str, x ≠ "__name__" → mb x = bootBuiltins x)
    (hlim : s.heap.NoLimit) (hx : s.heap.get? x = some (excO C t0)) (hnx : K.lookup x = none) (hn : n.natAbs.log2 < 1920) (hroom : A.depth < recursionLimit)
    (hq : ∀ h' tk dx t1, InitEnd s.heap h' x C dx t1 (.int n tn) → R (.ok (.ret .none)) { s with heap := h', toks := tk }) :
    codeAny (model prog w) A (.call (.ref fI) ⟨[.ref x, .int n tn], []⟩) R s := by
  obtain ⟨oc, od, q, doc, pm, an, cda, cc, ct, osl, tx, p1, p2, q1, q2, q3, q4, q5, q6, q7, q8, q9, r1, r2, r3, r4, ccl, cdd, vs, ccs, file, tf, cl, cld, csl, ho, hcd, hcda, hvs, hfile, hcc, htx, hline⟩ := T.fn
  obtain ⟨nm, qn, N, bs, bm, sn, sub, ab, col, dd, k0, k1, k2, k3, k5, hC, hbm⟩ := T.cls
  have hcl : clsIn K C = some { name := nm, bases := bs, mro := .ref C :: bm, ns := N, qualname := qn, hasDict := true, slotNames := sn, subclasses := sub, abstract := ab, collection := col, hasDel := false } := by unfold clsIn; rw [hC] <;> rfl
  have I0 : InstAt s.heap x (excO C t0) C none := ⟨hx, rfl, rfl, trivial⟩
  have hxC : x ≠ C := ks_ne X I0 hcl
  refine ks_codeAny_call_defAt (fd := ksFn "__init__" q (iA p1 p2) (iB tx q1 q2 q3 q4 q5 q6 q7 q8 q9 r1 r2 r3 r4) iS .none .none doc pm an (.ref cda) ct cc) (body := iB tx q1 q2 q3 q4 q5 q6 q7 q8 q9 r1 r2 r3 r4) (binds := [("self", .ref x), ("place", .int n tn)])
    hroom (X _ _ ho) rfl hlim (codeRec_of X hcd) rfl (BindsTo.of_eq rfl) (by show ∀ x ∈ iS.names, x.2 ≠ .cell; decide) (locs rfl) (fun h₀ hns k₀ => ?_) rfl rfl rfl
  obtain ⟨hp, g, d, t, os⟩ := s
  have X₀ : K.In h₀ := X.keeps k₀
  have hx₀ := k₀ _ _ hx
  have hxL : hp.objs.size ≠ x := Nat.ne_of_gt (Heap.lt_size hx)
  -- super().__init__(f'..')
  refine ks_wpAt_execs_cons (ks_wpAt_Expr_any ?_)
  refine at_mcall hline rfl ?_
  refine ks_wpAt_super_base (env := callEnv (ksFn "__init__" q (iA p1 p2) (iB tx q1 q2 q3 q4 q5 q6 q7 q8 q9 r1 r2 r3 r4) iS .none .none doc pm an (.ref cda) ct cc) hp.objs.size fI) rfl rfl (by decide) rfl (X₀ _ _ ho) rfl rfl rfl (X₀ _ _ hcda) rfl hvs hfile T.top ?_
  obtain ⟨mb, hb, hmb⟩ := B
  refine ks_loadName_global rfl rfl (loadGlobal_builtin (v := .type "super") (Heap.Ns.keeps G k₀) T.msup (Heap.Ns.keeps hb k₀) ((hmb _ (by decide +kernel)).trans (by first | rfl | kernel_rfl)) ⟨rfl, ?_⟩)
  refine wpAny_loadName_free rfl rfl rfl ⟨_, X₀ _ _ hcc, rfl⟩ ?_
  refine wpAny_loadName_local rfl rfl hns (by first | rfl | with_unfolding_all rfl | kernel_rfl) ?_
  refine ks_wpAny_isType_cls (X₀ _ _ hC) rfl ⟨rfl, ?_⟩
  refine ks_wpAny_call_super (X₀ _ _ hC) rfl hx₀ rfl (fun c z => by cases z) (looks_mroIn X₀ T.self) (fun h₁ hso k₁ => ?_)
  have X₁ : K.In h₁ := X₀.keeps k₁
  have hx₁ := k₁ _ _ hx₀
  have hC₁ := X₁ _ _ hC
  have I1 : InstAt h₁ x (excO C t0) C none := ⟨hx₁, rfl, rfl, trivial⟩
  have hI : Looks (model prog w) h₁ (isInstance (.ref x) (.type "ValueError")) true := I1.type.andThen (looks_subIn X₁ T.inVE)
  have hm := T.su
  unfold ks_superIn at hm
  rw [hcl] at hm
  refine kxs_getMethod kxs_ValueError (d := d) (g := g) (os := os) hso (looks_opaque X₁ T.opq) (l₀ := .ref C :: bm) (fun A Q E s k q => wpAny_bind ((looks_clsIn X₁ hcl) A _ E s k (wpAny_pure q))) rfl X₁ hm hI hxC (by decide) ?_
  have hu : (h₁.push (kxs_mw "ValueError.__init__" x)).get? h₁.objs.size = some (kxs_mw "ValueError.__init__" x) := Heap.get?_push_at rfl rfl
  have k₂ : ∀ b o, h₁.get? b = some o → (h₁.push (kxs_mw "ValueError.__init__" x)).get? b = some o := fun b o e => Heap.get?_push_of_some _ e
  refine kxs_callWith (i := "ValueError.__init__") (x := x) rfl ?_
  refine evalArgs_plain (Calls.spliced_cons ?_)
  have hns₂ := (hns.keeps k₁).keeps k₂
  have hi : (Str.ofString (toString n)).length ≤ 1921 := by
    have e := int_text_length_le (k := 1920) (by decide) hn
    rw [ofString_length]
    exact e
  show wpAny _ _ (eval (.JoinedStr [.Constant (.str tx) 0 q4, .FormattedValue (.Name "place" q5) (-1) none q6] q7) _) _ _ _
  refine wpAny_JoinedStr ?_
  refine Calls.Constant_str ⟨tx, _, rfl, ?_, ?_⟩
  · rw [Str.length_append, sizeLine_eq]
    have : Str.empty.length = 0 := rfl
    omega
  refine wpAny_FormattedValue_plain (wpAny_Name (wpAny_loadName_local rfl rfl hns₂ (by first | rfl | with_unfolding_all rfl | kernel_rfl) (wpAny_formatField_int hn ⟨toString n, _, rfl, ?_, ?_⟩)) (by decide))
  · rw [Str.length_append, Str.length_append, sizeLine_eq]
    have : Str.empty.length = 0 := rfl
    omega
  refine ⟨?_, ?_⟩
  · rw [Str.length_append, Str.length_append, sizeLine_eq]
    have : Str.empty.length = 0 := rfl
    omega
  refine Calls.spliced_nil ?_
  show KxsAt _ _ _ _ ∧ wpAny _ _ (call _ _) _ _ _
  refine ⟨hu, ?_⟩
  refine call_mw (k₂ _ _ hC₁) (k₂ _ _ hx₁) hu (by show 1 ≤ sizeLine; rw [sizeLine_eq]; omega) (fun h₃ t1 k₃ hx₃ => ?_)
  have kc : ∀ b o, hp.get? b = some o → b ≠ x → h₃.get? b = some o := fun b o e n => k₃ b o n (k₂ b o (k₁ b o (k₀ b o e)))
  have X₃ : K.In h₃ := fun a o e => kc a o (X _ _ e) (fun z => by rw [z, hnx] at e; cases e)
  have hns₃ : h₃.Ns hp.objs.size _ := hns₂.at fun o e => k₃ _ o hxL e
  -- self.place = place
  show wpAt _ _ _ (execs _ _) _ _ _
  refine wpAt_of_wpAny ?_
  refine wpAny_execs_cons (plainObj_wpAny_Assign_Attribute ?_)
  refine wpAny_Name (wpAny_loadName_local rfl rfl hns₃ (by first | rfl | with_unfolding_all rfl | kernel_rfl) ?_) (by decide)
  refine wpAny_Name (wpAny_loadName_local rfl rfl hns₃ (by first | rfl | with_unfolding_all rfl | kernel_rfl) ?_) (by decide)
  refine set_plain X₃ (ox := excO C t1) (od := none) ⟨hx₃, rfl, rfl, trivial⟩ T.sa ?_
  refine exc_osa X₃ hx₃ hcl (show refsVE (.ref C :: bm) = true from hbm) rfl T.noN (fun h₄ tk₄ dx k₄ dn dne hx₄ hn₄ => ?_)
  show wpAny _ _ (execs _ _) _ _ _
  refine wpAny_execs_nil (hq h₄ tk₄ dx t1 ⟨fun b o hb e => k₄ b o hb (kc b o e hb), hx₄, ?_, dne, hn₄⟩)
  obtain ⟨oL, _, _, hoL, _⟩ := hns₃
  exact Nat.le_trans (Nat.le_of_lt (Heap.lt_size hoL)) dn

/-- a made error -/
structure OwnMade (h h' : Heap) (e C d : Addr) (v : Value) : Prop where
  keep : ∀ b o, h.get? b = some o → h'.get? b = some o
  new : h.objs.size ≤ e
  obj : ∃ oe vs, h'.get? e = some oe ∧ oe.cls = .ref C ∧ oe.dict = some d ∧ oe.data = .fields vs ∧ vs[1]? = some .none
  dbig : h.objs.size ≤ d
  dne : d ≠ e
  ns : h'.Ns1 d (fun y => if y = "place" then some v else none)
theorem wrong_made (T : WrTxt prog K mg xn C fI) {n : Int} {tn : Tok} (X : K.In s.heap) (G : s.heap.Ns mainGlobals mg) (B : ∃ mb, s.heap.Ns builtinsNs mb ∧ ∀ x : Str, x ≠ "__name__" → mb x = bootBuiltins x) (hlim : s.heap.NoLimit) (hn : n.natAbs.log2 < 1920) (hroom : A.depth + 1 < recursionLimit)
    (hq : ∀ h' tk e d, OwnMade s.heap h' e C d (.int n tn) → R (.ok (.ret (.ref e))) { s with heap := h', toks := tk }) :
    codeAny (model prog w) A (.call (.ref C) ⟨[.int n tn], []⟩) R s := by
  obtain ⟨nm, q, N, bs, bm, sn, sub, ab, col, dd, k0, k1, k2, k3, k5, hC, hbm⟩ := T.cls
  obtain ⟨hp, g, dr, tk, os⟩ := s
  have k : ∀ b o, hp.get? b = some o → ((hp.push (kdv_tup [.int n tn])).push (excO C hp.objs.size)).get? b = some o := fun b o e => Heap.get?_push_of_some _ (Heap.get?_push_of_some _ e)
  have hget : ((hp.push (kdv_tup [.int n tn])).push (excO C hp.objs.size)).get? (hp.objs.size + 1) = some (excO C hp.objs.size) := by heap_get
  have hnx : K.lookup (hp.objs.size + 1) = none := by
    cases e : K.lookup (hp.objs.size + 1) with
    | none => rfl
    | some o =>
      have z : hp.get? (hp.objs.size + 1) = some o := X _ _ e
      exact absurd (Nat.lt_of_succ_lt (Heap.lt_size z)) (Nat.lt_irrefl _)
  refine call_own F.excBase_ValueError (fun X => refsVE_contains X bm hbm) (X _ _ hC) (looks_findIn X T.iC) (fun self => bind_fn X self T.tC) (by show 1 ≤ sizeLine; rw [sizeLine_eq]; omega) ?_
  obtain ⟨mb, hb, hmb⟩ := B
  refine wrong_init (s := ⟨(hp.push (kdv_tup [.int n tn])).push (excO C hp.objs.size), g, dr, tk, os⟩) T (X.keeps k) (G.keeps k) ⟨mb, hb.keeps k, hmb⟩ (hlim.keeps k) hget hnx hn ?_ fun h' tk' dx t1 ⟨k', hx, dn, dne, hns⟩ => ?_
  · show A.depth + 1 < recursionLimit
    exact hroom
  · have old : ∀ b o, hp.get? b = some o → h'.get? b = some o := fun b o e => k' b o (Nat.ne_of_lt (Nat.lt_succ_of_lt (Heap.lt_size e))) (k b o e)
    have z : hp.objs.size + 1 + 1 ≤ dx := by
      first
        | (simpa only [Heap.size_push] using dn)
        | exact dn
        | (have q := dn; rw [Heap.size_push, Heap.size_push] at q; exact q)
    exact ⟨rfl, hq h' tk' (hp.objs.size + 1) dx ⟨old, Nat.le_succ _, ⟨_, _, hx, rfl, rfl, rfl, rfl⟩, Nat.le_trans (Nat.le_trans (Nat.le_succ _) (Nat.le_succ _)) z, dne, hns⟩⟩
end
end WrX
end PySem
namespace L2
open PySem PySem.Spec PyProof.Rows
theorem relO_wr {v : V} {v' : Value} (r : RelV v v') (f : Str) : RelO (List.lookup f [(("place" : Str), v)]) (if f = "place" then some v' else none) := by
  by_cases hw : f = "place"
  · subst hw
    rw [if_pos rfl]
    have q : List.lookup ("place" : Str) [(("place" : Str), v)] = some v := by simp [List.lookup]
    rw [q]
    exact r
  · rw [if_neg hw]
    have qw : (f == ("place" : Str)) = false := by simpa using hw
    have q2 : List.lookup f [(("place" : Str), v)] = none := by simp [List.lookup, qw]
    rw [q2]
    trivial
section
variable {X : Cx} {xn : Str} {C fI : Addr}
/-- Low(e) -/
def tMkWr (C : Addr) (ta : TA) : St → Hp → XK → Prop := fun σ H Q => ta σ H fun vs H1 => ∃ n : Int, vs = [.int n] ∧ n.natAbs.log2 < 1920 ∧ ∀ d, H1 d = none → Q (.ref C) (some d) (upd H1 d (.xd [(("place" : Str), .int n)]))
theorem pmk_wr {a : Expr} {ta : TA} {p pos : Pos} {k : Nat} (T : PySem.WrX.WrTxt X.prog X.K X.mg xn C fI) (hr : Room k X.A) (ha : PA X [a] ta) (hg : Gl X xn := by rfl) (hdb : (xn == ("__debug__" : Str)) = false := by decide)
    (he : starEach (a :: []) X.env = (false, eval a X.env) :: starEach [] X.env := by rfl) (hpl : (backTo pos (starEach [] X.env)).any (·.1) = false := by rfl) :
    PMk X (.Call (.Name xn p) [a] [] pos) (tMkWr C ta) := by
  intro pins s σ H Q I h
  refine wpAny_Call_Name_kw (ld_glob I hg T.gC ?_ hdb)
  refine PySem.W.callWith_K (h₀ := X.base) I.ok.mod.kin T.kC (thn (ha.run pos pins s σ H _ I h) fun us s1 hh => ?_) he hpl
  obtain ⟨vs, H1, I1, r1, n, ev, hn, q1⟩ := hh
  subst ev
  refine ⟨I1.kIn, ?_⟩
  cases r1 with
  | cons rv rn =>
    rename_i v' us'
    cases rn
    obtain ⟨tn, rfl⟩ := rv
    show wpAny _ _ (call (.ref C) [.int n tn]) _ _ _
    have hlim := I1.nolimit
    obtain ⟨hp, g, dr, tk, os⟩ := s1
    refine wpAny_call (PySem.WrX.wrong_made T I1.kIn (I1.mod.glob.keeps I1.bk) (by obtain ⟨mb, hb, hmb⟩ := I1.mod.blt; exact ⟨mb, hb.keeps I1.bk, hmb⟩) hlim hn (by have := hr.dp; omega) fun h' tk' e d M => ?_)
    show MkP X pins σ Q (.ref e) ⟨h', g, dr, tk', os⟩
    obtain ⟨oe, fv, hoe, hc, hd, hdat, h1⟩ := M.obj
    have hns := M.ns
    obtain ⟨G', g1, g2⟩ := restrict h' fun b => decide (b ≠ e)
    have gk : ∀ b, b ≠ e → G'.get? b = h'.get? b := fun b hb => g1 b (decide_eq_true hb)
    have ge : G'.get? e = none := g2 e (by simp)
    have old : ∀ b o, hp.get? b = some o → G'.get? b = some o := fun b o q => (gk b (Nat.ne_of_lt (Nat.lt_of_lt_of_le (Heap.lt_size q) M.new))).trans (M.keep b o q)
    have ob : ObjOk X.prog X.w (upd H1 d (.xd [(("place" : Str), .int n)])) G' d (.xd [(("place" : Str), .int n)]) :=
      ⟨_, hns.at (fun o q => (gk d M.dne).trans q), fun f => relO_wr (v := .int n) ⟨tn, rfl⟩ f⟩
    have J : Inv X pins σ (upd H1 d (.xd [(("place" : Str), .int n)])) ⟨G', g, dr, tk', os⟩ := I1.laid (t' := tk') old M.dbig ob
    refine ⟨e, oe, fv, ⟨G', g, dr, tk', os⟩, _, .ref C, some d, rfl, J, fun b o q => ?_, ge, hoe, ⟨hc, hd⟩, hdat, h1, ?_, rfl, I1.bare, raises_own T.exC T.tyC, q1 d (I1.hok.fresh M.dbig)⟩
    · by_cases hb : b = e
      · have q' : G'.get? b = some o := q
        rw [hb, ge] at q'; cases q'
      · exact (gk b hb).symm.trans q
    · rw [upd_ne (Ne.symm M.dne)]
      exact I1.hok.fresh M.new
/-- raise Low(e) -/
def tRaiseWr (C : Addr) (W : WX) (ta : TA) : TS := fun _ σ H => tMkWr C ta σ H fun cls d H' => W cls d σ H'
theorem ps_raiseWr {a : Expr} {ta : TA} {W : WX} {p pos pos2 : Pos} {k : Nat} (hc : X.calm = true) (T : PySem.WrX.WrTxt X.prog X.K X.mg xn C fI) (hr : Room k X.A) (tk : Takes X W) (ha : PA X [a] ta) (hg : Gl X xn := by rfl) (hdb : (xn == ("__debug__" : Str)) = false := by decide)
    (he : starEach (a :: []) X.env = (false, eval a X.env) :: starEach [] X.env := by rfl) (hpl : (backTo pos (starEach [] X.env)).any (·.1) = false := by rfl) :
    PS X (.Raise (some (.Call (.Name xn p) [a] [] pos)) none pos2) (tRaiseWr C W ta) := ps_raise hc tk (pmk_wr T hr ha hg hdb he hpl)
/-- low.by, low the exception that the suite holds (at a; its class cls, its dict d) -/
def tByWr (C : Addr) (a : Addr) (cls : Value) (d : Option Addr) (te : TE) : TE := fun σ H Q => te σ H fun x H1 => x = .ref a ∧ cls = .ref C ∧ ∃ (dd : Addr) (v : V), d = some dd ∧ H1 dd = some (.xd [(("place" : Str), v)]) ∧ Q v H1
theorem pe_byWr {a : Addr} {oe : Obj} {cls : Value} {d : Option Addr} {pn : List (Addr × Obj)} {e : Expr} {te : TE} {pos : Pos} (T : PySem.WrX.WrTxt X.prog X.K X.mg xn C fI) (hz : Zc cls d oe) (hf : ∃ vs, oe.data = .fields vs) (he : PE (X.suite a ((a, oe) :: pn)) e te)
    (hb : attributeBase e "place" X.env (eval e X.env) = eval e X.env := by rfl) :
    PE (X.suite a ((a, oe) :: pn)) (.Attribute e "place" pos) (tByWr C a cls d te) := by
  refine ⟨fun pins s σ H Q I h => ?_⟩
  refine attr_of hb (thn (he.run pins s σ H _ I h) fun u s1 hh => ?_)
  obtain ⟨x, H1, I1, rx, ex, ec, dd, v, ed, ea, q⟩ := hh
  subst ex
  obtain rfl : u = Value.ref a := rx
  subst ec
  subst ed
  obtain ⟨ha, _⟩ := I1.pin (a, oe) (List.mem_append_left _ List.mem_cons_self)
  obtain ⟨vs, hd⟩ := hf
  have hx : ObjOk X.prog X.w H1 s1.heap dd (.xd [(("place" : Str), v)]) := I1.hok dd _ ea
  obtain ⟨mA, hns, hr⟩ := hx
  obtain ⟨od, ho, hl⟩ := lookIn_ns hns
  have l : List.lookup ("place" : Str) [(("place" : Str), v)] = some v := by simp [List.lookup]
  obtain ⟨u, hu, ru⟩ := RelO.some_of (v := v) (o := mA "place") (by rw [← l]; exact hr "place")
  have J : PySem.W.InstAt s1.heap a oe C (some od) := ⟨ha, hz.1, by unfold PySem.W.notCls; rw [hd] <;> rfl, by rw [hz.2]; exact ho⟩
  exact HandSPX.exc_get I1.kIn J T.ga T.gg T.exC (PySem.W.findObj_own T.hdC T.noN rfl (by rw [hl, hu])) (handed_of ru) ⟨v, H1, I1.tok _, ru, q⟩
end
end L2

namespace L2
open PySem PySem.Spec PyProof.Rows
/-- isinstance(e, c), e the error that the suite holds: its class at D, its dict d -/
def rIsX (K : PySem.W.Frag) (a : Addr) (cls : Value) (d : Option Addr) : List V → Hp → VK → Prop := fun xs H Q => ∃ (D : Addr) (c : V) (cv : Value) (b : Bool), xs = [.ref a, c] ∧ cls = .ref D ∧ ExcC K D ∧ (d = none ∨ ∃ dd fs, d = some dd ∧ H dd = some (.xd fs)) ∧ (∀ u, RelV c u → u = cv) ∧ PySem.W.kitOne K (.ref D) cv = some b ∧ Q (.bl b) H
theorem call_isX {X : Cx} {a : Addr} {cls : Value} {d : Option Addr} {oe : Obj} {pn : List (Addr × Obj)} (hz : Zc cls d oe) (hf : ∃ vs, oe.data = .fields vs) : CallR (X.suite a ((a, oe) :: pn)) (.builtin "isinstance") (rIsX X.K a cls d) := by
  intro pins s σ H xs us Q I r h
  obtain ⟨D, c, cv, b, rfl, rfl, C, hd, hcv, e, q⟩ := h
  cases r with
  | cons rx rr =>
    cases rr with
    | cons rt rr =>
      cases rr
      cases rx
      have ec := hcv _ rt
      subst ec
      obtain ⟨hget, _⟩ := I.pin (a, oe) (List.mem_append.mpr (.inl List.mem_cons_self))
      obtain ⟨vs, hv⟩ := hf
      have J : ∃ od, PySem.W.InstAt s.heap a oe D od := by
        rcases hd with rfl | ⟨dd, fs, rfl, hx⟩
        · obtain ⟨oc, od, oda, osl⟩ := oe
          obtain ⟨h1, h2⟩ := hz
          dsimp only at h1 h2 hv
          subst h1 h2 hv
          exact ⟨none, hget, rfl, rfl, trivial⟩
        · have hx : ObjOk X.prog X.w H s.heap dd (.xd fs) := I.hok dd _ hx
          obtain ⟨mA, hns, hr⟩ := hx
          obtain ⟨od, ho, hl⟩ := lookIn_ns hns
          exact ⟨some od, hget, hz.1, by unfold PySem.W.notCls; rw [hv] <;> rfl, by rw [hz.2]; exact ho⟩
      obtain ⟨od, J⟩ := J
      exact PySem.W.kia_one (PySem.W.kitx_exc (by obtain ⟨cd, hc, _⟩ := PySem.W.any_some C.hd; rw [hc]; rfl) C.hg C.hk C.hs C.ha C.hn C.ht C.hm) I.kIn J e (fun z => nomatch z) fun tk => ⟨.bl b, H, I.kept (t' := tk) fun _ _ z => z, rfl, q⟩
end L2
namespace L2
open PySem PySem.Spec PyProof.Rows
theorem flying_keeps {B h h' : Heap} {l : List Env} {e : Addr} {Z : Obj → Prop} (x : HandSPX.FlyingZ B l e Z h) (k : ∀ b o, h.get? b = some o → h'.get? b = some o) : HandSPX.FlyingZ B l e Z h' := by
  obtain ⟨h1, h2, h3, oe, vs, T, oT, ts, e1, e2, e3, e4, e5, e6, e7, e8, e9⟩ := x
  exact ⟨fun b o q => k b o (h1 b o q), h2, Heap.FunFrames.of_keeps (fun b o q _ => ⟨o, k b o q, rfl⟩) h3, oe, vs, T, oT, ts, k _ _ e1, e2, e3, e4, e5, e6, k _ _ e7, e8, e9⟩
/-- except (x1, x2): the clause takes what the body lets out -/
def wTup (K : PySem.W.Frag) (c1 c2 : Value) (ts : Addr → Value → Option Addr → TS) (D : Ends) : WX := fun cls d σ H => PySem.W.exmAny K cls [c1, c2] = some true ∧ ∀ a, H a = none → ts a cls d D σ H
section
variable {X : Cx} {x1 x2 : Str} {c1 c2 : Value} {body suite : List Stmt} {b₀ : Stmt} {n1 n2 tpos pos pos' : Pos} {kk : Nat} {tb : WX → TS} {ts : Addr → Value → Option Addr → TS}
theorem ps_try_tup (hs : X.stack = X.env :: X.outer) (hf : X.env.frame = some X.env.locals) (hc1 : Names X x1 c1) (hc2 : Names X x2 c2)
    (hb : ∀ (W : WX) (pn : List (Addr × Obj)) (xe : Value → Shared → Prop), Takes (X.tr pn xe) W → PassesOwn (model X.prog X.w) X.A X.env xe → PSs (X.tr pn xe) body (tb W))
    (hsu : ∀ (a : Addr) (oe : Obj) (cls : Value) (d : Option Addr) (pn : List (Addr × Obj)), Zc cls d oe → (∃ vs, oe.data = .fields vs) → PSs (X.suite a ((a, oe) :: pn)) (b₀ :: suite) (ts a cls d)) :
    PS X (.Try body [.ExceptHandler (some (.Tuple [.Name x1 n1, .Name x2 n2] kk tpos)) none (b₀ :: suite) pos'] [] [] pos) (fun D σ H => tb (wTup X.K c1 c2 ts D) D σ H) := by
  refine ⟨fun pins s σ H D I h => ?_⟩
  have ok := I.ok
  have frm : X.A.frames = some (X.env :: X.outer) := by rw [ok.frames, hs]
  let hd : List ExceptHandler := [.ExceptHandler (some (.Tuple [.Name x1 n1, .Name x2 n2] kk tpos)) none (b₀ :: suite) pos']
  let out : Value → Shared → Prop := fun e s₁ => wpAny (model X.prog X.w) X.A (noteFrame e X.env) (fun _ s₂ => wpAny (model X.prog X.w) X.A (setFlight e none) (fun _ s₃ => wpAny (model X.prog X.w) X.A (handleBy e X.env hd) (SP X pins D) X.xe s₃) X.xe s₂) X.xe s₁
  refine wpAny_Try_except (wpAny_mono ((hb (wTup X.K c1 c2 ts D) (X.pn ++ pins) out (fun u s' xx => ?_) PassesOwn.looking).run [] s σ H D (I.toTry _) h) (fun f s1 hsp => ?_) (fun e s1 he => he))
  · obtain ⟨a, B, sI, pins', σ', H', cls, d, rfl, J', nb, up, sky, na, os, ag, yes, go⟩ := xx
    have J := J'.ofTry ok
    rw [hs] at sky
    refine Sky.land Zc.steady frm hf sky fun h3 fl3 up3 => ?_
    have J3 : Inv X pins σ' H' { s' with heap := h3 } := J.landed nb fl3.1 (up.trans up3) os ag
    obtain ⟨oe, vs, he, hz, hd'⟩ := fl3.there
    have out : a ∉ frs (X.env :: X.outer) := fun hm => by
      obtain ⟨_, o', e', no⟩ := fl3.2.2.1.mem hm
      rw [he] at e'
      cases e'
      exact no _ hd'
    have nL : a ≠ X.env.locals := fun z => out (List.mem_filterMap.mpr ⟨X.env, List.mem_cons_self, by rw [hf, z]⟩)
    have nF : a ∉ X.fs := fun hm => by
      obtain ⟨e, he, q⟩ := List.mem_filterMap.mp hm
      exact out (List.mem_filterMap.mpr ⟨e, List.mem_cons_of_mem _ he, q⟩)
    have S3 := J3.suite he hd' na nL nF
    have nm : ∀ {x : Str} {c : Value} {p : Pos} {Q : Value → Shared → Prop} {E : Value → Shared → Prop}, Names X x c → Q c { s' with heap := h3 } → wpAny (model X.prog X.w) (X.A.mark (some (.ref a))) (eval (.Name x p) X.env) Q E { s' with heap := h3 } := fun {x c p Q E} hc q => by
      obtain ⟨hg, hdb, hm | ⟨hm, hv, hn⟩⟩ := hc
      · exact ld_glob (X := X.suite a ((a, oe) :: (X.pn ++ pins))) S3 hg hm q hdb
      · exact ld_blt (X := X.suite a ((a, oe) :: (X.pn ++ pins))) S3 hg hm hv q hn hdb
    have kp : ∀ q o, h3.get? q = some o → (h3.push { cls := .type "tuple", data := .seq [c1, c2].toArray }).get? q = some o := fun _ _ z => Heap.get?_push_of_some _ z
    have LT : PySem.W.Looks (model X.prog X.w) (h3.push { cls := .type "tuple", data := .seq [c1, c2].toArray }) (typeOf (.ref a)) cls := fun A Q E s k q => wpAny_typeOf_ref (k _ _ (kp _ _ he)) (by rw [hz.1]; exact q)
    refine wpAny_handleBy_cons (codeAny_handlers_test (wpAny_Tuple (wpAny_items_cons (nm hc1 (wpAny_items_cons (nm hc2 (wpAny_items_nil ⟨by show 2 ≤ sizeLine; decide, ?_⟩))))))) (by intro q; cases q)
    refine (PySem.W.exm_tup2 (J3.kIn.keeps kp) LT (Heap.get?_push_size h3 rfl) yes).here ?_
    refine codeAny_handlers_suite (HandSPX.lands_againZ (flying_keeps fl3 kp) fun h4 fl4 up4 => ?_)
    have J4 : Inv X pins σ' H' { s' with heap := h4 } := J.landed nb fl4.1 (((up.trans up3).trans (Heap.UpToSlots.of_keeps kp)).trans up4) os ag
    obtain ⟨oe4, vs4, he4, hz4, hd4⟩ := fl4.there
    refine wpAny_mono ((hsu a oe4 cls d (X.pn ++ pins) hz4 ⟨_, hd4⟩).run [] _ _ H' _ (J4.suite he4 hd4 na nL nF) (go a na)) (fun f s6 hsp => ?_) (fun _ _ z => False.elim z)
    cases f with
    | ret u =>
      obtain ⟨v6, σ6, H6, S6, r6, q6⟩ := hsp
      exact ⟨_, _, _, S6.unsuite ok, r6, q6⟩
    | _ =>
      obtain ⟨σ6, H6, S6, q6⟩ := hsp
      exact ⟨_, _, S6.unsuite ok, q6⟩
  · cases f with
    | next =>
      obtain ⟨σ', H', J', q⟩ := hsp
      exact wpAny_execs_nil ⟨σ', H', J'.ofTry ok, q⟩
    | ret u =>
      obtain ⟨v, σ', H', J', r, q⟩ := hsp
      exact ⟨v, σ', H', J'.ofTry ok, r, q⟩
    | _ =>
      obtain ⟨σ', H', J', q⟩ := hsp
      exact ⟨σ', H', J'.ofTry ok, q⟩
end
end L2
namespace L2
open PySem PySem.Spec PyProof.Rows
/-- t * k, k of any size up to ten thousand -/
def rRepW (K : PySem.W.Frag) : R2 := fun x y H Q => ∃ l k xs, x = .ref l ∧ y = .int k ∧ SqT K H l xs ∧ xs ≠ [] ∧ 2 ≤ k ∧ k ≤ 10000 ∧ xs.length ≤ 10 ∧ ∀ p, H p = none → Q (.ref p) (upd H p (.tup (List.replicate k.toNat xs).flatten))
theorem op_repW {X : Cx} : OpR X (binaryOp .Mult) (rRepW X.K) := by
  intro pins s σ H x y v u Q I rx ry h
  obtain ⟨l, k, xs, rfl, rfl, hT, hne, h1, h2, hz, q⟩ := h
  cases rx
  obtain ⟨t, rfl⟩ := ry
  obtain ⟨its, r, ⟨⟨cls, dd, data, sl⟩, ho, hc, n, hd⟩, hs⟩ := I.tuple hT
  simp only at hc hd
  subst hc hd
  have hle : its.length = xs.length := r.length.symm
  have hn : its ≠ [] := fun e => by
    rw [e] at hle
    exact hne (List.eq_nil_of_length_eq_zero hle.symm)
  have hi : its.toArray.isEmpty = false := by
    cases its with
    | nil => exact absurd rfl hn
    | cons a b => rfl
  have hsz : its.toArray.size = xs.length := by rw [List.size_toArray, hle]
  have hm : ((its.toArray.size : Nat) : Int) * k ≤ 100000 := by
    rw [hsz]
    have : ((xs.length : Nat) : Int) * k ≤ 10 * k := Int.mul_le_mul_of_nonneg_right (by omega) (by omega)
    omega
  have fl : k.toNat * xs.length ≤ 10000 * 10 := Nat.mul_le_mul (by omega) hz
  have flen : (List.replicate k.toNat its).flatten.length ≤ sizeLine := by
    rw [PyProof.Rows.lm_len_rep_flat, hle, sizeLine_eq]
    omega
  have big : (decide (k < -(2 ^ 63)) || decide (k ≥ 2 ^ 63)) = false := by
    rw [decide_eq_false (by omega), decide_eq_false (by omega)] <;> rfl
  have one : (its.toArray.isEmpty || k == 1) = false := by rw [hi, Bool.false_or]; exact beq_eq_false_iff_ne.mpr (by omega)
  have low : (decide (k ≤ 0) || its.toArray.isEmpty) = false := by rw [hi, Bool.or_false]; exact decide_eq_false (by omega)
  have many : Builtin.Tuple.tupleTooMany (((its.toArray.size : Nat) : Int) * k) = false := by
    unfold Builtin.Tuple.tupleTooMany
    rw [sizeLine_eq]
    exact decide_eq_false (by omega)
  have road := tuple_mulW l its.toArray n dd sl k t big one low (by omega) many (by rw [size_rep, List.size_toArray]; exact flen)
  refine wpAny_binaryOp_repeat_ref (T := "tuple") (U := "int") (by decide) ⟨_, ho, rfl⟩ (fun s' => typeIs_int s' k t) noFill_tuple_mul F.fills_int_mul F.slot_int_rmul repeat_tuple F.slot_int_index.lookup
    (call_meets F.slot_int_rmul (typeIs_int s k t) F.entry_int_rmul (F.args_int_rmul_2 _ _) (int_rmul_tuple k t l its.toArray n dd sl) ⟨ho, rfl, ⟨_, ho, rfl⟩, call_meets F.slot_tuple_mul ⟨_, ho, rfl⟩ F.entry_tuple_mul (F.args_tuple_mul_2 _ _) road ⟨ho, ?_⟩⟩)
  rw [size_rep]
  refine ⟨.ref s.heap.objs.size, _, I.laid (t' := s.toks) (o := .tup (List.replicate k.toNat xs).flatten) (fun b ob q => Heap.get?_push_of_some _ q) (Nat.le_refl _) ?_, rfl, q _ (I.hok.fresh (Nat.le_refl _))⟩
  exact ⟨by rw [PyProof.Rows.lm_len_rep_flat, sizeLine_eq]; omega, _, r.rep k.toNat, IsTup.new _ _⟩
end L2
namespace L2
open PySem PySem.Spec PyProof.Rows
section
variable {prog : Program} {w : World} {A : Around} {E : Value → Shared → Prop} {s : Shared} {l : Addr} {its : List Value} {ns : List Int} {xs : Array (Int × Tok)} {Q : Value → Shared → Prop}
theorem iter_intTup (hl : s.heap.IsTuple l (intItems xs))
    (h : ∀ s₂ : Shared, s₂ = { s with heap := s.heap.push { cls := .type "tuple_iterator", data := .fields #[.ref l, .int 0 0] } } →
      (s₂.heap.IsTupleIter s.heap.objs.size l 0 ∧ s₂.heap.IsTuple l (intItems xs)) → (∀ b ∈ [s.heap.objs.size, l], b < s₂.heap.objs.size) → l ≠ s.heap.objs.size → Q (.ref s.heap.objs.size) s₂) :
    wpAny (model prog w) A (pyIter (.ref l)) Q E s := by
  have hlt : l < s.heap.objs.size := by obtain ⟨_, e, _⟩ := hl; exact Heap.lt_size e
  refine wpAny_pyIter_tuple hl (h _ rfl ⟨⟨_, Heap.get?_push_size _ rfl, rfl, rfl⟩, hl.at fun o e => Heap.get?_push_of_some _ e⟩ (fun b hb => ?_) (Nat.ne_of_lt hlt))
  show b < (s.heap.push _).objs.size
  rw [Heap.size_push]
  rcases List.mem_cons.mp hb with rfl | hb
  · exact Nat.lt_succ_self _
  · rcases List.mem_cons.mp hb with rfl | hb
    · exact Nat.lt_succ_of_lt hlt
    · cases hb
theorem old_keptT {h' : Heap} (hk : ∀ b o, b ∉ [s.heap.objs.size] → (s.heap.push { cls := .type "tuple_iterator", data := .fields #[.ref l, .int 0 0] }).get? b = some o → h'.get? b = some o) :
    ∀ b o, s.heap.get? b = some o → h'.get? b = some o := fun b o e => by
  refine hk b o (fun hm => ?_) (Heap.get?_push_of_some _ e)
  rcases List.mem_cons.mp hm with e1 | hm
  · exact absurd (e1 ▸ Heap.lt_size e) (Nat.lt_irrefl _)
  · cases hm
theorem max_intTup (hh : A.handled = none) (hl : s.heap.IsTuple l (intItems xs)) (hne : 0 < xs.size)
    (h : ∀ v h' tk, (intItems xs)[argBest (fun i j => decide (numAt xs i > numAt xs j)) (xs.size - 1)]? = some v → (∀ b o, s.heap.get? b = some o → h'.get? b = some o) → Q v { s with heap := h', toks := tk }) :
    wpAny (model prog w) A (call (.builtin "max") [.ref l]) Q E s := by
  refine call_max_walk (iter_intTup hl fun s₂ e st hfp hlI => ?_)
  subst e
  refine ⟨_, _, _, _, _, _, _, rfl, Walks.tuple (A := A.in1) hh _ l hlI (intItems xs), st, hfp, by simpa [intItems] using hne, CmpOf.ints_gt (numAt xs) (fun _ _ => intItems_at), fun v h' tk hP hk => ?_⟩
  exact h v h' tk (by simpa [intItems] using hP) (old_keptT hk)
theorem min_intTup (hh : A.handled = none) (hl : s.heap.IsTuple l (intItems xs)) (hne : 0 < xs.size)
    (h : ∀ v h' tk, (intItems xs)[argBest (fun i j => decide (numAt xs i < numAt xs j)) (xs.size - 1)]? = some v → (∀ b o, s.heap.get? b = some o → h'.get? b = some o) → Q v { s with heap := h', toks := tk }) :
    wpAny (model prog w) A (call (.builtin "min") [.ref l]) Q E s := by
  refine call_min_walk (iter_intTup hl fun s₂ e st hfp hlI => ?_)
  subst e
  refine ⟨_, _, _, _, _, _, _, rfl, Walks.tuple (A := A.in1) hh _ l hlI (intItems xs), st, hfp, by simpa [intItems] using hne, CmpOf.ints_lt (numAt xs) (fun _ _ => intItems_at), fun v h' tk hP hk => ?_⟩
  exact h v h' tk (by simpa [intItems] using hP) (old_keptT hk)
theorem max_rawT (hh : A.handled = none) (hl : s.heap.IsTuple l its.toArray) (hi : IntsAre its ns) (hne : 0 < ns.length)
    (h : ∀ h' tk M t', (∀ b o, s.heap.get? b = some o → h'.get? b = some o) → M ∈ ns → (∀ a, a ∈ ns → a ≤ M) → Q (.int M t') { s with heap := h', toks := tk }) : wpAny (model prog w) A (call (.builtin "max") [.ref l]) Q E s := by
  obtain ⟨xs, e⟩ := hi.allInts.items
  have hn : numsOf (intItems xs).toList = ns := by rw [← e]; exact hi.numsOf
  rw [nums_intItems] at hn
  subst hn
  rw [e] at hl
  have hsz : 0 < xs.size := by simpa using hne
  refine max_intTup hh hl hsz fun v h' tk hv hk => ?_
  obtain ⟨t, rfl⟩ := intItems_at hv
  obtain ⟨h1, h2⟩ := argBest_gt (numAt xs) (xs.size - 1)
  refine h h' tk _ t hk ?_ fun a ha => ?_
  · rw [numAt_eq]; exact PySem.getD_mem (by rw [List.length_map, Array.length_toList]; omega)
  · obtain ⟨j, hj, rfl⟩ := mem_getD ha
    rw [List.length_map, Array.length_toList] at hj
    rw [← numAt_eq]; exact h2 j (by omega)
theorem min_rawT (hh : A.handled = none) (hl : s.heap.IsTuple l its.toArray) (hi : IntsAre its ns) (hne : 0 < ns.length)
    (h : ∀ h' tk M t', (∀ b o, s.heap.get? b = some o → h'.get? b = some o) → M ∈ ns → (∀ a, a ∈ ns → M ≤ a) → Q (.int M t') { s with heap := h', toks := tk }) : wpAny (model prog w) A (call (.builtin "min") [.ref l]) Q E s := by
  obtain ⟨xs, e⟩ := hi.allInts.items
  have hn : numsOf (intItems xs).toList = ns := by rw [← e]; exact hi.numsOf
  rw [nums_intItems] at hn
  subst hn
  rw [e] at hl
  have hsz : 0 < xs.size := by simpa using hne
  refine min_intTup hh hl hsz fun v h' tk hv hk => ?_
  obtain ⟨t, rfl⟩ := intItems_at hv
  obtain ⟨h1, h2⟩ := argBest_lt (numAt xs) (xs.size - 1)
  refine h h' tk _ t hk ?_ fun a ha => ?_
  · rw [numAt_eq]; exact PySem.getD_mem (by rw [List.length_map, Array.length_toList]; omega)
  · obtain ⟨j, hj, rfl⟩ := mem_getD ha
    rw [List.length_map, Array.length_toList] at hj
    rw [← numAt_eq]; exact h2 j (by omega)
end
section
variable {X : Cx}
/-- max(t), min(t) of a tuple of ints -/
def rMaxT (K : PySem.W.Frag) : List V → Hp → VK → Prop := fun vs H Q => ∃ (a : Addr) (ns : List Int), vs = [V.ref a] ∧ SqT K H a (ns.map V.int) ∧ 0 < ns.length ∧ ∀ m, m ∈ ns → (∀ y, y ∈ ns → y ≤ m) → Q (.int m) H
def rMinT (K : PySem.W.Frag) : List V → Hp → VK → Prop := fun vs H Q => ∃ (a : Addr) (ns : List Int), vs = [V.ref a] ∧ SqT K H a (ns.map V.int) ∧ 0 < ns.length ∧ ∀ m, m ∈ ns → (∀ y, y ∈ ns → m ≤ y) → Q (.int m) H
theorem cr_maxT (hc : X.calm = true) : CallR X (.builtin "max") (rMaxT X.K) := by
  intro pins s σ H vs us Q I r h
  obtain ⟨a, ns, rfl, hs, hne, q⟩ := h
  obtain ⟨its, rv, hl, _⟩ := I.tuple hs
  rw [Vals.ref1 r]
  exact max_rawT (I.ok.hd hc) hl rv.ints hne fun h' tk m t' hk h1 h2 => ⟨.int _, H, I.kept hk, ⟨_, rfl⟩, q m h1 h2⟩
theorem cr_minT (hc : X.calm = true) : CallR X (.builtin "min") (rMinT X.K) := by
  intro pins s σ H vs us Q I r h
  obtain ⟨a, ns, rfl, hs, hne, q⟩ := h
  obtain ⟨its, rv, hl, _⟩ := I.tuple hs
  rw [Vals.ref1 r]
  exact min_rawT (I.ok.hd hc) hl rv.ints hne fun h' tk m t' hk h1 h2 => ⟨.int _, H, I.kept hk, ⟨_, rfl⟩, q m h1 h2⟩
end
end L2
/-! The prime 2^61 - 1: 37 has the order P - 1, so every residue but 0 is one of its powers; so P is a field, and a^(P-1) = 1. -/
namespace Pr
def P : Nat := 2305843009213693951
def pm : Nat → Nat → Nat → Nat
  | 0, _, _ => 1
  | f + 1, b, n => if n % 2 = 1 then pm f (b * b % P) (n / 2) * b % P else pm f (b * b % P) (n / 2)
theorem pow_mod' (b n : Nat) : (b % P) ^ n % P = b ^ n % P := (Nat.pow_mod b n P).symm
theorem pm_eq : ∀ (f b n : Nat), n < 2 ^ f → pm f b n % P = b ^ n % P := by
  intro f
  induction f with
  | zero => intro b n h; obtain rfl : n = 0 := by omega
            rfl
  | succ f ih =>
    intro b n h
    have h2 : n / 2 < 2 ^ f := by rw [Nat.pow_succ] at h; omega
    have e := ih (b * b % P) (n / 2) h2
    rw [pow_mod', show b * b = b ^ 2 from (Nat.pow_two b).symm, ← Nat.pow_mul] at e
    have hn : 2 * (n / 2) + n % 2 = n := Nat.div_add_mod n 2
    show (if n % 2 = 1 then pm f (b * b % P) (n / 2) * b % P else pm f (b * b % P) (n / 2)) % P = _
    rw [show b * b = b ^ 2 from (Nat.pow_two b).symm]
    by_cases o : n % 2 = 1
    · rw [if_pos o, Nat.mod_mod, Nat.mul_mod, e, ← Nat.mul_mod, ← Nat.pow_succ]
      rw [o] at hn
      rw [← hn]
      congr 2
      omega
    · rw [if_neg o, e]
      congr 2
      omega
def qs : List Nat := [2, 3, 5, 7, 11, 13, 31, 41, 61, 151, 331, 1321]
theorem g_all : 37 ^ (P - 1) % P = 1 := by
  rw [← pm_eq 61 37 (P - 1) (by decide)]
  decide +kernel
theorem g_not : ∀ q, q ∈ qs → 37 ^ ((P - 1) / q) % P ≠ 1 := by
  intro q hq
  rw [← pm_eq 61 37 ((P - 1) / q) (Nat.lt_of_le_of_lt (Nat.div_le_self _ _) (by decide))]
  have : ∀ q, q ∈ qs → pm 61 37 ((P - 1) / q) % P ≠ 1 := by decide +kernel
  exact this q hq
theorem q_prime : ∀ q, q ∈ qs → ∀ d : Nat, d < 1322 → d ∣ q → d = 1 ∨ d = q := by
  have : ∀ q, q ∈ qs → ∀ d : Fin 1322, q % d.val = 0 → d.val = 1 ∨ d.val = q := by decide +kernel
  intro q hq d hd hdq
  exact this q hq ⟨d, hd⟩ (Nat.mod_eq_zero_of_dvd hdq)
theorem q_small : ∀ q, q ∈ qs → 0 < q ∧ q < 1322 ∧ (P - 1) % q = 0 := by decide +kernel
/-- a divisor of P - 1 other than itself divides (P - 1) / q for one of the primes -/
theorem part {e : Nat} (he : e ∣ P - 1) (hn : e ≠ P - 1) : ∃ q, q ∈ qs ∧ e ∣ (P - 1) / q := by
  obtain ⟨k, hk⟩ := he
  have h1 : k ≠ 1 := by rintro rfl; omega
  have hx : ∃ q, q ∈ qs ∧ Nat.gcd k q ≠ 1 := by
    refine Classical.byContradiction fun hno => ?_
    have hc : ∀ q, q ∈ qs → Nat.Coprime k q := fun q hq => Classical.byContradiction fun h => hno ⟨q, hq, h⟩
    have c2 := hc 2 (by decide)
    have c3 := hc 3 (by decide)
    have c5 := hc 5 (by decide)
    have hN : Nat.Coprime k (2 * 3 * 3 * 5 * 5 * 7 * 11 * 13 * 31 * 41 * 61 * 151 * 331 * 1321) :=
      ((((((((((((c2.mul_right c3).mul_right c3).mul_right c5).mul_right c5).mul_right (hc 7 (by decide))).mul_right (hc 11 (by decide))).mul_right (hc 13 (by decide))).mul_right (hc 31 (by decide))).mul_right (hc 41 (by decide))).mul_right (hc 61 (by decide))).mul_right (hc 151 (by decide))).mul_right (hc 331 (by decide))).mul_right (hc 1321 (by decide))
    have hd : k ∣ P - 1 := ⟨e, by rw [hk, Nat.mul_comm]⟩
    have : Nat.gcd k (P - 1) = k := Nat.gcd_eq_left hd
    exact h1 (this.symm.trans hN)
  obtain ⟨q, hq, hg⟩ := hx
  obtain ⟨q0, ql, qd⟩ := q_small q hq
  have hgq : Nat.gcd k q ∣ q := Nat.gcd_dvd_right k q
  have := q_prime q hq _ (Nat.lt_of_le_of_lt (Nat.le_of_dvd q0 hgq) ql) hgq
  have hqk : q ∣ k := by
    rcases this with h | h
    · exact absurd h hg
    · rw [← h]; exact Nat.gcd_dvd_left k q
  obtain ⟨m, rfl⟩ := hqk
  refine ⟨q, hq, m, ?_⟩
  rw [hk, Nat.mul_left_comm, Nat.mul_div_cancel_left _ q0]
/-- no n + 1 numbers below n are all unlike -/
theorem pigeon : ∀ (n : Nat) (f : Nat → Nat), (∀ i, i < n + 1 → f i < n) → (∀ i j, i < n + 1 → j < n + 1 → f i = f j → i = j) → False := by
  intro n
  induction n with
  | zero => intro f h _; exact absurd (h 0 (by omega)) (by omega)
  | succ n ih =>
    intro f h inj
    refine ih (fun i => if f i = n then f (n + 1) else f i) (fun i hi => ?_) (fun i j hi hj e => ?_)
    · have a := h i (by omega)
      have b := h (n + 1) (by omega)
      have c := inj i (n + 1) (by omega) (by omega)
      show (if f i = n then f (n + 1) else f i) < n
      split <;> omega
    · have a := inj i j (by omega) (by omega)
      have b := inj i (n + 1) (by omega) (by omega)
      have c := inj j (n + 1) (by omega) (by omega)
      have e' : (if f i = n then f (n + 1) else f i) = (if f j = n then f (n + 1) else f j) := e
      split at e' <;> split at e' <;> omega
theorem P_pos : 0 < P := by decide
theorem one_mod : 1 % P = 1 := rfl
theorem pow_one_of {b a : Nat} (h : b ^ a % P = 1) (k : Nat) : b ^ (a * k) % P = 1 := by
  rw [Nat.pow_mul, Nat.pow_mod, h, Nat.one_pow]; rfl
theorem ord_mod {b a c : Nat} (ha : b ^ a % P = 1) (hc : b ^ c % P = 1) : b ^ (c % a) % P = 1 := by
  have h : a * (c / a) + c % a = c := Nat.div_add_mod c a
  have e : b ^ c % P = b ^ (c % a) % P := by
    conv => lhs; rw [← h, Nat.pow_add, Nat.mul_mod, pow_one_of ha, Nat.one_mul, Nat.mod_mod]
  exact e.symm.trans hc
theorem ord_gcd (b m n : Nat) : b ^ m % P = 1 → b ^ n % P = 1 → b ^ (Nat.gcd m n) % P = 1 := by
  refine Nat.gcd.induction (P := fun m n => b ^ m % P = 1 → b ^ n % P = 1 → b ^ (Nat.gcd m n) % P = 1) m n (fun n _ h => ?_) (fun m n _ ih hm hn => ?_)
  · rw [Nat.gcd_zero_left]; exact h
  · rw [Nat.gcd_rec]; exact ih (ord_mod hm hn) hm
theorem g_ne (d : Nat) (h0 : 0 < d) (hd : d < P - 1) : 37 ^ d % P ≠ 1 := by
  intro h
  have hg := ord_gcd 37 d (P - 1) h g_all
  have hdv : Nat.gcd d (P - 1) ∣ P - 1 := Nat.gcd_dvd_right _ _
  have hle : Nat.gcd d (P - 1) ≤ d := Nat.le_of_dvd h0 (Nat.gcd_dvd_left _ _)
  obtain ⟨q, hq, k, hk⟩ := part hdv (by omega)
  exact g_not q hq (by rw [hk]; exact pow_one_of hg k)
theorem g_inj {i j : Nat} (hij : i < j) (hj : j < P - 1) : 37 ^ i % P ≠ 37 ^ j % P := by
  intro h
  have e : 37 ^ (P - 1 - i) * 37 ^ i % P = 37 ^ (P - 1 - i) * 37 ^ j % P := by
    rw [Nat.mul_mod, h, ← Nat.mul_mod]
  rw [← Nat.pow_add, ← Nat.pow_add, show P - 1 - i + i = P - 1 by omega, g_all, show P - 1 - i + j = (P - 1) + (j - i) by omega, Nat.pow_add, Nat.mul_mod, g_all, Nat.one_mul, Nat.mod_mod] at e
  exact g_ne (j - i) (by omega) (by omega) e.symm
theorem g_pos {i : Nat} (hi : i < P - 1) : 0 < 37 ^ i % P := by
  refine Nat.pos_of_ne_zero fun h => ?_
  have e : 37 ^ i * 37 ^ (P - 1 - i) % P = 0 := by rw [Nat.mul_mod, h, Nat.zero_mul]; rfl
  rw [← Nat.pow_add, show i + (P - 1 - i) = P - 1 by omega, g_all] at e
  cases e
theorem onto {x : Nat} (h0 : 0 < x) (hx : x < P) : ∃ i, i < P - 1 ∧ 37 ^ i % P = x := by
  refine Classical.byContradiction fun hno => ?_
  have hn : ∀ i, i < P - 1 → 37 ^ i % P ≠ x := fun i hi e => hno ⟨i, hi, e⟩
  have lt : ∀ i, 37 ^ i % P < P := fun i => Nat.mod_lt _ P_pos
  have inj : ∀ i j, i < P - 1 → j < P - 1 → 37 ^ i % P = 37 ^ j % P → i = j := fun i j hi hj e => by
    rcases Nat.lt_trichotomy i j with h | h | h
    · exact absurd e (g_inj h hj)
    · exact h
    · exact absurd e.symm (g_inj h hi)
  have pos : ∀ i, i < P - 1 → 0 < 37 ^ i % P := fun i hi => g_pos hi
  have hP : P - 1 + 1 = P := rfl
  generalize (P - 1) = N at *
  generalize P = M at *
  refine pigeon N (fun i => if i = N then x - 1 else 37 ^ i % M - 1) (fun i hi => ?_) (fun i j hi hj e => ?_)
  · show (if i = N then x - 1 else 37 ^ i % M - 1) < N
    have a := lt i
    split
    · omega
    · have b := pos i (by omega)
      omega
  · have e' : (if i = N then x - 1 else 37 ^ i % M - 1) = (if j = N then x - 1 else 37 ^ j % M - 1) := e
    split at e' <;> split at e'
    · omega
    · have a := hn j (by omega)
      have b := pos j (by omega)
      omega
    · have a := hn i (by omega)
      have b := pos i (by omega)
      omega
    · have a := pos i (by omega)
      have b := pos j (by omega)
      exact inj i j (by omega) (by omega) (by omega)
/-- Fermat's -/
theorem fermat {x : Nat} (h : x % P ≠ 0) : x ^ (P - 1) % P = 1 := by
  obtain ⟨i, _, e⟩ := onto (Nat.pos_of_ne_zero h) (Nat.mod_lt _ P_pos)
  rw [Nat.pow_mod, ← e, ← Nat.pow_mod, ← Nat.pow_mul, Nat.mul_comm]
  exact pow_one_of g_all i
theorem mul_inv {x : Nat} (h : x % P ≠ 0) : x * x ^ (P - 2) % P = 1 := by
  rw [Nat.mul_comm, ← Nat.pow_succ]
  exact fermat h
theorem mul_zero {a b : Nat} (h : a * b % P = 0) : a % P = 0 ∨ b % P = 0 := by
  refine Classical.byContradiction fun hn => ?_
  have ha : a % P ≠ 0 := fun e => hn (.inl e)
  have e : b * a * a ^ (P - 2) % P = b % P := by
    rw [Nat.mul_assoc, Nat.mul_mod, mul_inv ha, Nat.mul_one, Nat.mod_mod]
  rw [Nat.mul_mod, Nat.mul_comm b a, h, Nat.zero_mul] at e
  exact hn (.inr e.symm)
end Pr
/-! Polynomials modulo 2^61 - 1 as functions of the power; ideals; the greatest common divisor of two products of linear factors. -/
namespace Po
open Lean.Grind
class Fd (F : Type) extends Lean.Grind.CommRing F where
  inv_ex : ∀ x : F, x ≠ 0 → ∃ y : F, y * x = 1
  ne : (1 : F) ≠ 0
section
variable {F : Type} [Fd F]
open Classical
theorem inv_ex (x : F) (h : x ≠ 0) : ∃ y : F, y * x = 1 := Fd.inv_ex x h
theorem mul_eq_zero {a b : F} (h : a * b = 0) : a = 0 ∨ b = 0 := by
  by_cases ha : a = 0
  · exact .inl ha
  · obtain ⟨y, hy⟩ := inv_ex a ha
    refine .inr ?_
    have : y * (a * b) = b := by rw [← Semiring.mul_assoc, hy, Semiring.one_mul]
    rw [h, Semiring.mul_zero] at this
    exact this.symm
theorem sub_ne {a b : F} (h : a ≠ b) : b - a ≠ 0 := fun e => h (by grind)
abbrev Q (F : Type) := Nat → F
def sh (f : Q F) : Q F
  | 0 => 0
  | k + 1 => f k
def L (r : F) (f : Q F) : Q F := fun k => sh f k - r * f k
def nil : Q F := fun _ => 0
def add (f g : Q F) : Q F := fun k => f k + g k
def smul (c : F) (f : Q F) : Q F := fun k => c * f k
def one : Q F := fun k => if k = 0 then 1 else 0
inductive I (S : Q F → Prop) : Q F → Prop
  | base {f} : S f → I S f
  | zero : I S nil
  | add {f g} : I S f → I S g → I S (add f g)
  | smul (c) {f} : I S f → I S (smul c f)
  | sh {f} : I S f → I S (sh f)
theorem I.of {S S' : Q F → Prop} (h : ∀ f, S f → I S' f) {g : Q F} (hg : I S g) : I S' g := by
  induction hg with
  | base h1 => exact h _ h1
  | zero => exact .zero
  | add _ _ a b => exact .add a b
  | smul c _ a => exact .smul c a
  | sh _ a => exact .sh a
theorem I.sub {S : Q F → Prop} {f g : Q F} (hf : I S f) (hg : I S g) : I S (fun k => f k - g k) := by
  have h := I.add hf (I.smul (-1) hg)
  have e : Po.add f (Po.smul (-1) g) = fun k => f k - g k := by
    funext k
    show f k + -1 * g k = f k - g k
    grind
  rw [e] at h
  exact h
theorem I.L {S : Q F → Prop} {f : Q F} (r : F) (hf : I S f) : I S (L r f) := I.sub (I.sh hf) (I.smul r hf)
theorem I.nil {S : Q F → Prop} {f : Q F} (h : ∀ k, f k = 0) : I S f := by
  have : f = Po.nil := funext h
  rw [this]
  exact .zero
theorem I.cancel {S : Q F → Prop} {f : Q F} {c : F} (hc : c ≠ 0) (h : I S (Po.smul c f)) : I S f := by
  obtain ⟨y, hy⟩ := inv_ex c hc
  have h2 := I.smul y h
  have e : Po.smul y (Po.smul c f) = f := by
    funext k
    show y * (c * f k) = f k
    rw [← Semiring.mul_assoc, hy, Semiring.one_mul]
  rw [e] at h2
  exact h2
theorem sh_add (f g : Q F) : sh (add f g) = add (sh f) (sh g) := by
  funext k
  cases k with
  | zero => show (0 : F) = 0 + 0; grind
  | succ k => rfl
theorem sh_smul (c : F) (f : Q F) : sh (smul c f) = smul c (sh f) := by
  funext k
  cases k with
  | zero => show (0 : F) = c * 0; grind
  | succ k => rfl
theorem sh_L (r : F) (f : Q F) : sh (L r f) = L r (sh f) := by
  funext k
  cases k with
  | zero => show (0 : F) = 0 - r * 0; grind
  | succ k => rfl
theorem L_add (r : F) (f g : Q F) : L r (add f g) = add (L r f) (L r g) := by
  funext k
  show sh (add f g) k - r * (f k + g k) = (sh f k - r * f k) + (sh g k - r * g k)
  rw [sh_add]
  show (sh f k + sh g k) - r * (f k + g k) = _
  grind
theorem L_smul (r c : F) (f : Q F) : L r (smul c f) = smul c (L r f) := by
  funext k
  show sh (smul c f) k - r * (c * f k) = c * (sh f k - r * f k)
  rw [sh_smul]
  show c * sh f k - r * (c * f k) = _
  grind
theorem L_nil (r : F) : L r nil = nil := by
  funext k
  show sh nil k - r * 0 = 0
  have : sh (nil : Q F) k = 0 := by cases k <;> rfl
  rw [this]
  grind
theorem L_L (a b : F) (f : Q F) : L a (L b f) = L b (L a f) := by
  funext k
  show sh (L b f) k - a * (sh f k - b * f k) = sh (L a f) k - b * (sh f k - a * f k)
  rw [sh_L, sh_L]
  show (sh (sh f) k - b * sh f k) - a * (sh f k - b * f k) = (sh (sh f) k - a * sh f k) - b * (sh f k - a * f k)
  grind
theorem I.map {S S' : Q F → Prop} (r : F) (h : ∀ f, S f → I S' (Po.L r f)) {g : Q F} (hg : I S g) : I S' (Po.L r g) := by
  induction hg with
  | base h1 => exact h _ h1
  | zero => rw [L_nil]; exact .zero
  | add _ _ a b => rw [L_add]; exact .add a b
  | smul c _ a => rw [L_smul]; exact .smul c a
  | sh _ a => rw [← sh_L]; exact .sh a
/-- all linear factors of some roots -/
def Ls : List F → Q F → Q F
  | [], f => f
  | r :: rs, f => L r (Ls rs f)
def prod (rs : List F) : Q F := Ls rs one
theorem I.Ls {S : Q F → Prop} {f : Q F} (rs : List F) (hf : I S f) : I S (Ls rs f) := by
  induction rs with
  | nil => exact hf
  | cons r rs ih => exact ih.L r
theorem Ls_app (a b : List F) (f : Q F) : Ls (a ++ b) f = Ls a (Ls b f) := by
  induction a with
  | nil => rfl
  | cons r a ih => show L r (Ls (a ++ b) f) = _; rw [ih]; rfl
theorem Ls_L (r : F) (rs : List F) (f : Q F) : Ls rs (L r f) = L r (Ls rs f) := by
  induction rs with
  | nil => rfl
  | cons s rs ih => show L s (Ls rs (L r f)) = L r (L s (Ls rs f)); rw [ih, L_L]
theorem Ls_Ls (a b : List F) (f : Q F) : Ls a (Ls b f) = Ls b (Ls a f) := by
  induction b with
  | nil => rfl
  | cons s b ih => show Ls a (L s (Ls b f)) = L s (Ls b (Ls a f)); rw [Ls_L, ih]
theorem Ls_perm {a b : List F} (h : a.Perm b) (f : Q F) : Ls a f = Ls b f := by
  induction h with
  | nil => rfl
  | cons x _ ih => show L x _ = L x _; rw [ih]
  | swap x y l => exact L_L y x _
  | trans _ _ h1 h2 => exact h1.trans h2
theorem I.mapLs {S S' : Q F → Prop} (rs : List F) (h : ∀ f, S f → I S' (Po.Ls rs f)) {g : Q F} (hg : I S g) : I S' (Po.Ls rs g) := by
  induction rs generalizing S S' g with
  | nil => exact hg.of h
  | cons r rs ih =>
    have h1 : I (fun f => ∃ f0, S f0 ∧ f = Po.Ls rs f0) (Po.Ls rs g) := ih (fun f hf => .base ⟨f, hf, rfl⟩) hg
    exact h1.map r fun f ⟨f0, hf0, e⟩ => by rw [e]; exact h f0 hf0
def Two (A B : Q F) : Q F → Prop := fun f => f = A ∨ f = B
def One (A : Q F) : Q F → Prop := fun f => f = A
/-- 1 out of a product and one linear factor of another root -/
theorem cop1 (b : F) (as : List F) (h : ∀ a, a ∈ as → a ≠ b) : I (Two (prod as) (L b one)) one := by
  induction as with
  | nil => exact .base (.inl rfl)
  | cons a as ih =>
    have hb : I (Two (prod (a :: as)) (L b one)) (L b (prod as)) := by
      have : I (One one) (prod as) := I.Ls as (.base rfl)
      exact this.map b fun f e => by rw [e]; exact .base (.inr rfl)
    have hd : I (Two (prod (a :: as)) (L b one)) (smul (b - a) (prod as)) := by
      have h1 := I.sub (I.base (S := Two (prod (a :: as)) (L b one)) (.inl rfl)) hb
      have e : (fun k => prod (a :: as) k - L b (prod as) k) = smul (b - a) (prod as) := by
        funext k
        show (sh (prod as) k - a * prod as k) - (sh (prod as) k - b * prod as k) = (b - a) * prod as k
        grind
      rw [e] at h1
      exact h1
    have hf := I.cancel (sub_ne (h a (by simp))) hd
    exact (ih fun x hx => h x (by simp [hx])).of fun f hf' => by
      rcases hf' with e | e
      · rw [e]; exact hf
      · rw [e]; exact .base (.inr rfl)
/-- 1 out of two products without a common root -/
theorem cop (as bs : List F) (h : ∀ a, a ∈ as → ∀ b, b ∈ bs → a ≠ b) : I (Two (prod as) (prod bs)) one := by
  induction bs with
  | nil => exact .base (.inr rfl)
  | cons b bs ih =>
    have h1 := cop1 b as fun a ha => h a ha b (by simp)
    have h2 : I (Two (prod as) (prod (b :: bs))) (prod bs) := h1.mapLs bs fun f hf => by
      rcases hf with e | e
      · rw [e]; exact I.Ls bs (.base (.inl rfl))
      · rw [e, Ls_L]; exact .base (.inr rfl)
    exact (ih fun a ha c hc => h a ha c (by simp [hc])).of fun f hf => by
      rcases hf with e | e
      · rw [e]; exact .base (.inl rfl)
      · rw [e]; exact h2
/-- the product of the common roots lies in the ideal of both -/
theorem common_in {one' two both as bs : List F} (h1 : one'.Perm (both ++ as)) (h2 : two.Perm (both ++ bs)) (h : ∀ a, a ∈ as → ∀ b, b ∈ bs → a ≠ b) : I (Two (prod one') (prod two)) (prod both) := by
  refine (cop as bs h).mapLs both fun f hf => ?_
  rcases hf with e | e
  · rw [e]
    refine .base (.inl ?_)
    show Ls both (Ls as one) = Ls one' one
    rw [Ls_perm h1, Ls_app]
  · rw [e]
    refine .base (.inr ?_)
    show Ls both (Ls bs one) = Ls two one
    rw [Ls_perm h2, Ls_app]
theorem common_of {one' both as : List F} (h1 : one'.Perm (both ++ as)) : I (One (prod both)) (prod one') := by
  show I _ (Ls one' one)
  rw [Ls_perm h1, Ls_app, Ls_Ls]
  exact I.Ls as (.base rfl)
/-- a multiple that is less than what it is a multiple of is 0 -/
def mul : List F → Q F → Q F
  | [], _ => nil
  | u :: us, f => add (smul u f) (sh (mul us f))
def ladd : List F → List F → List F
  | [], b => b
  | a, [] => a
  | x :: a, y :: b => (x + y) :: ladd a b
theorem mul_ladd (f : Q F) : ∀ a b, mul (ladd a b) f = add (mul a f) (mul b f)
  | [], b => by
    funext k
    show mul b f k = 0 + mul b f k
    grind
  | x :: a, [] => by
    funext k
    show mul (x :: a) f k = mul (x :: a) f k + 0
    grind
  | x :: a, y :: b => by
    funext k
    show (x + y) * f k + sh (mul (ladd a b) f) k = (x * f k + sh (mul a f) k) + (y * f k + sh (mul b f) k)
    rw [mul_ladd f a b, sh_add]
    show (x + y) * f k + (sh (mul a f) k + sh (mul b f) k) = _
    grind
theorem mul_smul (c : F) (f : Q F) : ∀ a, mul (a.map fun x => c * x) f = smul c (mul a f)
  | [] => by
    funext k
    show (0 : F) = c * 0
    grind
  | x :: a => by
    funext k
    show (c * x) * f k + sh (mul (a.map fun x => c * x) f) k = c * (x * f k + sh (mul a f) k)
    rw [mul_smul c f a, sh_smul]
    show (c * x) * f k + c * sh (mul a f) k = _
    grind
theorem mul_of {T f : Q F} (h : I (One T) f) : ∃ us, f = mul us T := by
  induction h with
  | base e =>
    refine ⟨[1], ?_⟩
    cases e
    funext k
    show T k = 1 * T k + sh nil k
    have : sh (nil : Q F) k = 0 := by cases k <;> rfl
    rw [this]
    grind
  | zero => exact ⟨[], rfl⟩
  | add _ _ a b =>
    obtain ⟨u, rfl⟩ := a
    obtain ⟨v, rfl⟩ := b
    exact ⟨ladd u v, (mul_ladd T u v).symm⟩
  | smul c _ a =>
    obtain ⟨u, rfl⟩ := a
    exact ⟨_, (mul_smul c T u).symm⟩
  | sh _ a =>
    obtain ⟨u, rfl⟩ := a
    refine ⟨0 :: u, ?_⟩
    funext k
    show sh (mul u T) k = 0 * T k + sh (mul u T) k
    grind
def Monic (n : Nat) (T : Q F) : Prop := T n = 1 ∧ ∀ k, n < k → T k = 0
theorem less_mul {n : Nat} {T : Q F} (hT : Monic n T) : ∀ us, (∀ k, n ≤ k → mul us T k = 0) → ∀ k, mul us T k = 0
  | [], _, _ => rfl
  | u :: us, h, k => by
    have ih := less_mul hT us fun k hk => by
      have e := h (k + 1) (by omega)
      have e2 : u * T (k + 1) + mul us T k = 0 := e
      rw [hT.2 (k + 1) (by omega)] at e2
      grind
    have hz : sh (mul us T) = nil := by
      funext k
      cases k with
      | zero => rfl
      | succ k => exact ih k
    have e : u * T n + sh (mul us T) n = 0 := h n (Nat.le_refl n)
    rw [hT.1, hz] at e
    have hu : u = 0 := by
      have : u * 1 + (0 : F) = 0 := e
      grind
    show u * T k + sh (mul us T) k = 0
    rw [hz, hu]
    show 0 * T k + 0 = 0
    grind
theorem less {n : Nat} {T X : Q F} (hT : Monic n T) (hX : I (One T) X) (h : ∀ k, n ≤ k → X k = 0) : ∀ k, X k = 0 := by
  obtain ⟨us, rfl⟩ := mul_of hX
  exact less_mul hT us h
/-- two monic polynomials that divide each other are one -/
theorem same {n m : Nat} {D T : Q F} (hD : Monic m D) (hT : Monic n T) (h1 : I (One T) D) (h2 : I (One D) T) : D = T := by
  have no : ∀ x : F, x = 1 → x = 0 → False := fun x a b => Fd.ne (a.symm.trans b)
  have hnm : n = m := by
    rcases Nat.lt_trichotomy n m with h | h | h
    · exact (no _ hT.1 (less hD h2 (fun k hk => hT.2 k (by omega)) n)).elim
    · exact h
    · exact (no _ hD.1 (less hT h1 (fun k hk => hD.2 k (by omega)) m)).elim
  subst hnm
  have hs := less hT (I.sub h1 (.base (S := One T) rfl)) (fun k hk => by
    rcases Nat.lt_or_eq_of_le hk with h | rfl
    · rw [hD.2 k h, hT.2 k h]; grind
    · rw [hD.1, hT.1]; grind)
  funext k
  have := hs k
  grind
end
/-! ### the residues of the prime -/
instance : NeZero Pr.P := ⟨by decide⟩
theorem fin_inv (x : Fin Pr.P) (h : x ≠ 0) : ∃ y : Fin Pr.P, y * x = 1 := by
  refine ⟨⟨x.val ^ (Pr.P - 2) % Pr.P, Nat.mod_lt _ Pr.P_pos⟩, Fin.ext ?_⟩
  have hx : x.val % Pr.P ≠ 0 := by
    rw [Nat.mod_eq_of_lt x.isLt]
    exact fun e => h (Fin.ext e)
  have e := Pr.mul_inv hx
  rw [Fin.val_mul]
  show x.val ^ (Pr.P - 2) % Pr.P * x.val % Pr.P = 1
  rw [Nat.mod_mul_mod, Nat.mul_comm]
  exact e
instance : Fd (Fin Pr.P) where
  inv_ex := fin_inv
  ne := fun h => absurd (congrArg Fin.val h) (by decide)
end Po
/-! Lists of numbers modulo 2^61 - 1 as polynomials. -/
namespace Pg
open Po
section
variable {R : Type} [Fd R]
theorem g0 (r : R) : (0 : R) = 0 - r * 0 := by grind
theorem g1 (r : R) : (1 : R) - r * 0 = 1 := by grind
theorem g2 (a r : R) : a = a - r * 0 := by grind
theorem g3 (a b s : R) : a - b + s = a - (b - s) := by grind
theorem g4 (x y o : R) (h : y * o = 1) : x - (x * y) * o = 0 := by grind
theorem g5 (a : R) : a = a - 0 := by grind
theorem g6 (a b d : R) (h : b + d = 0) : a + b = a - d := by grind
end
abbrev F := Fin Pr.P
def md (z : Int) : Nat := (z % 2305843009213693951).toNat
theorem md_lt (z : Int) : md z < 2305843009213693951 := by unfold md; omega
theorem md_int (z : Int) : (md z : Int) = z % 2305843009213693951 := by unfold md; omega
theorem md_id {n : Nat} (h : n < 2305843009213693951) : md (n : Int) = n := by unfold md; omega
def c (z : Int) : F := ⟨md z, md_lt z⟩
theorem c_val (z : Int) : (c z).val = md z := rfl
theorem c_add (a b : Int) : c (a + b) = c a + c b := by
  refine Fin.ext ?_
  rw [Fin.val_add, c_val, c_val, c_val]
  show md (a + b) = (md a + md b) % 2305843009213693951
  unfold md
  omega
theorem c_mul (a b : Int) : c (a * b) = c a * c b := by
  refine Fin.ext ?_
  rw [Fin.val_mul, c_val, c_val, c_val]
  show md (a * b) = (md a * md b) % 2305843009213693951
  have e : ((md (a * b) : Nat) : Int) = ((md a * md b % 2305843009213693951 : Nat) : Int) := by
    rw [Int.natCast_emod, Int.natCast_mul, md_int, md_int, md_int, Int.mul_emod]
    rfl
  exact Int.ofNat.inj e
theorem c_neg (a : Int) : c (-a) = - c a := by
  have h : c (-a) + c a = 0 := by
    rw [← c_add]
    refine Fin.ext ?_
    show md (-a + a) = 0
    unfold md
    omega
  have : c (-a) = (c (-a) + c a) - c a := by grind
  rw [this, h]
  grind
theorem c_sub (a b : Int) : c (a - b) = c a - c b := by
  rw [Int.sub_eq_add_neg, c_add, c_neg]
  grind
theorem c_md (z : Int) : c (md z : Int) = c z := Fin.ext (by rw [c_val, c_val, md_id (md_lt z)])
theorem c_zero : c 0 = 0 := rfl
theorem c_one : c 1 = 1 := rfl
theorem c_inj {a b : Nat} (ha : a < 2305843009213693951) (hb : b < 2305843009213693951) (h : c a = c b) : a = b := by
  have := congrArg Fin.val h
  rw [c_val, c_val, md_id ha, md_id hb] at this
  exact this
theorem c_ne {a : Nat} (ha : a < 2305843009213693951) (h : a ≠ 0) : c a ≠ 0 := fun e => h (c_inj (b := 0) ha (by decide) e)
/-- numbers of the prime -/
def Pm (l : List Nat) : Prop := ∀ n, n ∈ l → n < 2305843009213693951
theorem Pm.at {l : List Nat} (h : Pm l) (k : Nat) : l.getD k 0 < 2305843009213693951 := by
  rw [List.getD_eq_getElem?_getD]
  cases e : l[k]? with
  | none => show 0 < _; omega
  | some n => exact h n (List.mem_of_getElem? e)
def cf (l : List Nat) : Q F := fun k => c ((l.getD k 0 : Nat) : Int)
theorem cf_far {l : List Nat} {k : Nat} (h : l.length ≤ k) : cf l k = 0 := by
  show c ((l.getD k 0 : Nat) : Int) = 0
  rw [List.getD_eq_getElem?_getD, List.getElem?_eq_none h]
  rfl
theorem cf_eq {l m : List Nat} (hl : Pm l) (hm : Pm m) (e : l.length = m.length) (h : cf l = cf m) : l = m := by
  refine List.ext_getElem e fun i h1 h2 => ?_
  have := congrFun h i
  have e2 : l.getD i 0 = m.getD i 0 := c_inj (hl.at i) (hm.at i) this
  rw [List.getD_eq_getElem?_getD, List.getD_eq_getElem?_getD, List.getElem?_eq_getElem h1, List.getElem?_eq_getElem h2] at e2
  exact e2
/-- Horner's -/
def hor (x : Nat) : List Nat → Nat
  | [] => 0
  | n :: l => md ((hor x l : Nat) * x + n)
/-- one root more -/
def mr (r : Nat) (l : List Nat) : List Nat := List.zipWith (fun lo hi => md ((lo : Nat) - (r : Nat) * (hi : Nat))) (0 :: l) (l ++ [0])
def rp (l : List Nat) (rs : List Nat) : List Nat := rs.foldl (fun l r => mr r l) l
theorem mr_len (r : Nat) (l : List Nat) : (mr r l).length = l.length + 1 := by unfold mr; simp
theorem mr_pm (r : Nat) (l : List Nat) : Pm (mr r l) := by
  intro n hn
  obtain ⟨i, h⟩ := List.mem_iff_getElem?.mp hn
  unfold mr at h
  rw [List.getElem?_zipWith] at h
  split at h
  · cases h; exact md_lt _
  · cases h
theorem mr_at (r : Nat) (l : List Nat) (k : Nat) (h : k < l.length + 1) : (mr r l)[k]? = some (md (((if k = 0 then 0 else l.getD (k - 1) 0 : Nat) : Int) - (r : Nat) * (l.getD k 0 : Nat))) := by
  unfold mr
  rw [List.getElem?_zipWith]
  have h1 : (0 :: l)[k]? = some (if k = 0 then 0 else l.getD (k - 1) 0) := by
    cases k with
    | zero => rfl
    | succ k =>
      rw [List.getElem?_cons_succ, List.getElem?_eq_getElem (by omega)]
      simp [List.getD_eq_getElem?_getD, List.getElem?_eq_getElem (show k < l.length by omega)]
  have h2 : (l ++ [0])[k]? = some (l.getD k 0) := by
    rw [List.getD_eq_getElem?_getD]
    by_cases hk : k < l.length
    · rw [List.getElem?_append_left hk, List.getElem?_eq_getElem hk]
      rfl
    · obtain rfl : k = l.length := by omega
      rw [List.getElem?_append_right (Nat.le_refl _), Nat.sub_self, List.getElem?_eq_none (Nat.le_refl _)]
      rfl
  rw [h1, h2]
theorem cf_mr (r : Nat) (l : List Nat) : cf (mr r l) = L (c r) (cf l) := by
  funext k
  by_cases h : k < l.length + 1
  · show c (((mr r l).getD k 0 : Nat) : Int) = sh (cf l) k - c r * cf l k
    rw [List.getD_eq_getElem?_getD, mr_at r l k h, Option.getD_some, c_md, c_sub, c_mul]
    have : c ((if k = 0 then 0 else l.getD (k - 1) 0 : Nat) : Int) = sh (cf l) k := by
      cases k with
      | zero => rfl
      | succ k => rfl
    rw [this]
    rfl
  · rw [cf_far (by rw [mr_len]; omega)]
    show 0 = sh (cf l) k - c r * cf l k
    have h1 : cf l k = 0 := cf_far (by omega)
    have h2 : sh (cf l) k = 0 := by
      cases k with
      | zero => rfl
      | succ k => exact cf_far (by omega)
    rw [h1, h2]
    exact g0 _
theorem cf_rp : ∀ (rs l : List Nat), cf (rp l rs) = Ls (rs.map fun r => c (r : Nat)) (cf l)
  | [], l => rfl
  | r :: rs, l => by
    show cf (rp (mr r l) rs) = L (c r) (Ls (rs.map fun r => c (r : Nat)) (cf l))
    rw [cf_rp rs, cf_mr, Ls_L]
theorem cf_one : cf [1] = one := by
  funext k
  cases k with
  | zero => rfl
  | succ k => rfl
theorem rp_len : ∀ (rs l : List Nat), (rp l rs).length = l.length + rs.length
  | [], l => rfl
  | r :: rs, l => by
    show (rp (mr r l) rs).length = _
    rw [rp_len rs, mr_len, List.length_cons]
    omega
theorem rp_pm : ∀ (rs l : List Nat), Pm l → Pm (rp l rs)
  | [], l, h => h
  | r :: rs, l, h => rp_pm rs (mr r l) (mr_pm r l)
theorem monic_L {n : Nat} {f : Q F} (r : F) (h : Monic n f) : Monic (n + 1) (L r f) := by
  refine ⟨?_, fun k hk => ?_⟩
  · show f n - r * f (n + 1) = 1
    rw [h.1, h.2 (n + 1) (by omega)]
    exact g1 _
  · cases k with
    | zero => omega
    | succ k =>
      show f k - r * f (k + 1) = 0
      rw [h.2 k (by omega), h.2 (k + 1) (by omega)]
      exact (g0 _).symm
theorem monic_Ls : ∀ (rs : List F), Monic rs.length (Ls rs one)
  | [] => ⟨rfl, fun k hk => by
    cases k with
    | zero => cases hk
    | succ k => rfl⟩
  | r :: rs => monic_L r (monic_Ls rs)
/-- the polynomial with some roots -/
def br (rs : List Nat) : List Nat := rp [1] rs
theorem cf_br (rs : List Nat) : cf (br rs) = prod (rs.map fun r => c (r : Nat)) := by
  unfold br prod
  rw [cf_rp, cf_one]
theorem br_len (rs : List Nat) : (br rs).length = rs.length + 1 := by
  unfold br
  rw [rp_len]
  simp
  omega
theorem br_pm (rs : List Nat) : Pm (br rs) := rp_pm rs [1] (fun n hn => by
  have : n = 1 := by simpa using hn
  rw [this]
  decide)
theorem br_monic (rs : List Nat) : Monic rs.length (cf (br rs)) := by
  rw [cf_br]
  have := monic_Ls (rs.map fun r => c (r : Nat))
  rw [List.length_map] at this
  exact this
theorem br_last (rs : List Nat) : (br rs)[rs.length]? = some 1 := by
  have h := (br_monic rs).1
  have h2 : (br rs).getD rs.length 0 = 1 := c_inj (b := 1) ((br_pm rs).at _) (by decide) h
  rw [List.getD_eq_getElem?_getD, List.getElem?_eq_getElem (by rw [br_len]; omega)] at h2
  rw [List.getElem?_eq_getElem (by rw [br_len]; omega)]
  exact congrArg some h2
/-- shifted -/
def shn : Nat → Q F → Q F
  | 0, f => f
  | n + 1, f => sh (shn n f)
theorem shn_at : ∀ (n : Nat) (f : Q F) (k : Nat), shn n f k = if k < n then 0 else f (k - n)
  | 0, f, k => by simp [shn]
  | n + 1, f, 0 => by simp [shn, sh]
  | n + 1, f, k + 1 => by
    show shn n f k = _
    rw [shn_at n f k]
    by_cases h : k < n
    · rw [if_pos h, if_pos (by omega)]
    · rw [if_neg h, if_neg (by omega)]
      congr 1
      omega
theorem I_shn {S : Q F → Prop} {f : Q F} (h : I S f) : ∀ n, I S (shn n f)
  | 0 => h
  | n + 1 => (I_shn h n).sh
/-- a list from which f times another, moved, is taken away at its first k places -/
def Took (left other : List Nat) (at_ f k : Nat) (l : List Nat) : Prop :=
  l.length = left.length ∧ Pm l ∧ ∀ j, l.getD j 0 = if at_ ≤ j ∧ j < at_ + k then md ((left.getD j 0 : Nat) - (f : Nat) * (other.getD (j - at_) 0 : Nat)) else left.getD j 0
theorem took0 {left other : List Nat} {at_ f : Nat} (h : Pm left) : Took left other at_ f 0 left := ⟨rfl, h, fun j => by rw [if_neg (by omega)]⟩
theorem getD_set {l : List Nat} {i j v : Nat} (h : i < l.length) : (l.set i v).getD j 0 = if j = i then v else l.getD j 0 := by
  rw [List.getD_eq_getElem?_getD, List.getElem?_set]
  by_cases e : i = j
  · subst e
    simp [h]
  · rw [if_neg e, if_neg (fun z => e z.symm), List.getD_eq_getElem?_getD]
theorem pm_set {l : List Nat} {i v : Nat} (h : Pm l) (hv : v < 2305843009213693951) : Pm (l.set i v) := fun n hn => by
  rcases List.mem_or_eq_of_mem_set hn with h1 | h1
  · exact h n h1
  · rw [h1]; exact hv
theorem Took.next {left other l : List Nat} {at_ f k : Nat} (h : Took left other at_ f k l) (hk : at_ + k < left.length) : Took left other at_ f (k + 1) (l.set (at_ + k) (md ((l.getD (at_ + k) 0 : Nat) - (f : Nat) * (other.getD k 0 : Nat)))) := by
  obtain ⟨h1, h2, h3⟩ := h
  refine ⟨by rw [List.length_set, h1], pm_set h2 (md_lt _), fun j => ?_⟩
  rw [getD_set (by omega)]
  by_cases e : j = at_ + k
  · subst e
    rw [if_pos rfl, if_pos (by omega), h3, if_neg (by omega), show at_ + k - at_ = k by omega]
  · rw [if_neg e, h3]
    by_cases e2 : at_ ≤ j ∧ j < at_ + k
    · rw [if_pos e2, if_pos (by omega)]
    · rw [if_neg e2, if_neg (by omega)]
theorem Took.cf {left other l : List Nat} {at_ f : Nat} (h : Took left other at_ f other.length l) : Pg.cf l = fun j => Pg.cf left j - smul (c f) (shn at_ (Pg.cf other)) j := by
  funext j
  show c ((l.getD j 0 : Nat) : Int) = Pg.cf left j - c f * shn at_ (Pg.cf other) j
  rw [h.2.2 j, shn_at]
  by_cases e : at_ ≤ j ∧ j < at_ + other.length
  · rw [if_pos e, if_neg (by omega), c_md, c_sub, c_mul]
    rfl
  · rw [if_neg e]
    by_cases e2 : j < at_
    · rw [if_pos e2]
      exact g2 _ _
    · rw [if_neg e2, cf_far (l := other) (k := j - at_) (by omega)]
      exact g2 _ _
/-- one step of dividing: it stays in the ideal, and one place more is 0 -/
theorem Took.step {left other l poly : List Nat} {at_ f lead : Nat} (h : Took left other at_ f other.length l) (ho : Pm other) (h0 : 0 < other.length) (hl : c lead * c (other.getD (other.length - 1) 0) = 1) (hf : f = md ((left.getD (at_ + (other.length - 1)) 0 : Nat) * (lead : Nat)))
    (hin : I (One (Pg.cf other)) (fun k => Pg.cf poly k - Pg.cf left k)) (hz : ∀ j, at_ + other.length ≤ j → left.getD j 0 = 0) :
    I (One (Pg.cf other)) (fun k => Pg.cf poly k - Pg.cf l k) ∧ ∀ j, at_ + (other.length - 1) ≤ j → l.getD j 0 = 0 := by
  refine ⟨?_, fun j hj => ?_⟩
  · have h1 : I (One (Pg.cf other)) (smul (c f) (shn at_ (Pg.cf other))) := (I_shn (.base (S := One (Pg.cf other)) rfl) at_).smul _
    have h2 := hin.add h1
    have e : add (fun k => Pg.cf poly k - Pg.cf left k) (smul (c f) (shn at_ (Pg.cf other))) = fun k => Pg.cf poly k - Pg.cf l k := by
      funext k
      rw [h.cf]
      exact g3 _ _ _
    rw [e] at h2
    exact h2
  · refine c_inj (b := 0) (h.2.1.at j) (by decide) ?_
    show Pg.cf l j = 0
    rw [h.cf]
    show Pg.cf left j - c f * shn at_ (Pg.cf other) j = 0
    rw [shn_at, if_neg (by omega)]
    by_cases e : j = at_ + (other.length - 1)
    · rw [show j - at_ = other.length - 1 by omega]
      show c (left.getD j 0 : Nat) - c f * c (other.getD (other.length - 1) 0 : Nat) = 0
      rw [hf, c_md, c_mul, ← e]
      exact g4 _ _ _ hl
    · have e1 : Pg.cf left j = 0 := by
        show c (left.getD j 0 : Nat) = 0
        rw [hz j (by omega)]
        rfl
      rw [e1, cf_far (l := other) (k := j - at_) (by omega)]
      exact (g0 _).symm
end Pg
/-! Polynomials that split: lists of field elements, values, the factor theorem, products of linear factors. -/
namespace Pl
open Po Lean.Grind
section
variable {F : Type} [Fd F]
open Classical
def lf (us : List F) : Q F := fun k => us.getD k 0
theorem lf_nil : lf ([] : List F) = nil := rfl
theorem lf_cons (u : F) (us : List F) : lf (u :: us) = add (smul u one) (sh (lf us)) := by
  funext k
  cases k with
  | zero => show u = u * (if (0:Nat) = 0 then 1 else 0) + 0; rw [if_pos rfl]; grind
  | succ k => show us.getD k 0 = u * (if k + 1 = 0 then 1 else 0) + us.getD k 0; rw [if_neg (by omega)]; grind
theorem mul_one' : ∀ us : List F, mul us one = lf us
  | [] => rfl
  | u :: us => by
    show add (smul u one) (sh (mul us one)) = _
    rw [mul_one' us, lf_cons]
def ev : List F → F → F
  | [], _ => 0
  | u :: us, a => u + a * ev us a
def syn (a : F) : List F → List F
  | [] => []
  | _ :: us => ev us a :: syn a us
theorem syn_len (a : F) : ∀ us, (syn a us).length = us.length
  | [] => rfl
  | _ :: us => by show (syn a us).length + 1 = us.length + 1; rw [syn_len a us]
theorem syn_eq (a : F) (f : Q F) : ∀ us, mul us f = add (L a (mul (syn a us) f)) (smul (ev us a) f)
  | [] => by
    show nil = add (L a nil) (smul 0 f)
    rw [L_nil]
    funext k
    show (0 : F) = 0 + 0 * f k
    grind
  | u :: us => by
    show add (smul u f) (sh (mul us f)) = add (L a (add (smul (ev us a) f) (sh (mul (syn a us) f)))) (smul (u + a * ev us a) f)
    rw [syn_eq a f us, sh_add, sh_L, sh_smul, L_add, L_smul]
    funext k
    show u * f k + (L a (sh (mul (syn a us) f)) k + ev us a * sh f k) = (ev us a * (sh f k - a * f k) + L a (sh (mul (syn a us) f)) k) + (u + a * ev us a) * f k
    grind
theorem mul_L (a : F) (f : Q F) : ∀ us, mul us (L a f) = L a (mul us f)
  | [] => (L_nil a).symm
  | u :: us => by
    show add (smul u (L a f)) (sh (mul us (L a f))) = L a (add (smul u f) (sh (mul us f)))
    rw [mul_L a f us, L_add, L_smul, sh_L]
theorem ev_syn (a b : F) : ∀ us, ev us b = (b - a) * ev (syn a us) b + ev us a
  | [] => by show (0 : F) = (b - a) * 0 + 0; grind
  | u :: us => by
    show u + b * ev us b = (b - a) * (ev us a + b * ev (syn a us) b) + (u + a * ev us a)
    have := ev_syn a b us
    grind
theorem I.mul {S : Q F → Prop} {f : Q F} (hf : I S f) : ∀ us, I S (Po.mul us f)
  | [] => .zero
  | u :: us => .add (.smul u hf) (.sh (I.mul hf us))
theorem mul_add (us : List F) (f g : Q F) : mul us (add f g) = add (mul us f) (mul us g) := by
  induction us with
  | nil => funext k; show (0 : F) = 0 + 0; grind
  | cons u us ih =>
    show add (smul u (add f g)) (sh (mul us (add f g))) = add (add (smul u f) (sh (mul us f))) (add (smul u g) (sh (mul us g)))
    rw [ih, sh_add]
    funext k
    show u * (f k + g k) + (sh (mul us f) k + sh (mul us g) k) = (u * f k + sh (mul us f) k) + (u * g k + sh (mul us g) k)
    grind
theorem mul_sm (us : List F) (c : F) (f : Q F) : mul us (smul c f) = smul c (mul us f) := by
  induction us with
  | nil => funext k; show (0 : F) = c * 0; grind
  | cons u us ih =>
    show add (smul u (smul c f)) (sh (mul us (smul c f))) = smul c (add (smul u f) (sh (mul us f)))
    rw [ih, sh_smul]
    funext k
    show u * (c * f k) + c * sh (mul us f) k = c * (u * f k + sh (mul us f) k)
    grind
theorem mul_sh (us : List F) (f : Q F) : mul us (sh f) = sh (mul us f) := by
  induction us with
  | nil => funext k; cases k <;> rfl
  | cons u us ih =>
    show add (smul u (sh f)) (sh (mul us (sh f))) = sh (add (smul u f) (sh (mul us f)))
    rw [ih, sh_add, sh_smul]
/-- the difference -/
def sub (f g : Q F) : Q F := fun k => f k - g k
theorem mul_sub (us : List F) (f g : Q F) : mul us (sub f g) = sub (mul us f) (mul us g) := by
  have e : ∀ x y : Q F, sub x y = add x (smul (-1) y) := fun x y => by
    funext k
    show x k - y k = x k + -1 * y k
    grind
  rw [e, e, mul_add, mul_sm]
theorem self (f : Q F) : I (Po.One f) f := .base rfl
/-- alike modulo f -/
def Md (f A B : Q F) : Prop := I (Po.One f) (sub A B)
theorem Md.refl (f A : Q F) : Md f A A := I.nil fun k => by show A k - A k = 0; grind
theorem Md.symm {f A B : Q F} (h : Md f A B) : Md f B A := by
  have := h.smul (-1)
  have e : smul (-1) (sub A B) = sub B A := by funext k; show -1 * (A k - B k) = B k - A k; grind
  rw [e] at this
  exact this
theorem Md.trans {f A B C : Q F} (h : Md f A B) (h2 : Md f B C) : Md f A C := by
  have := h.add h2
  have e : add (sub A B) (sub B C) = sub A C := by funext k; show (A k - B k) + (B k - C k) = A k - C k; grind
  rw [e] at this
  exact this
theorem Md.of {f A B : Q F} (e : A = B) : Md f A B := by rw [e]; exact .refl f B
theorem Md.add {f A B C D : Q F} (h : Md f A B) (h2 : Md f C D) : Md f (Po.add A C) (Po.add B D) := by
  have := I.add h h2
  have e : Po.add (sub A B) (sub C D) = sub (Po.add A C) (Po.add B D) := by funext k; show (A k - B k) + (C k - D k) = (A k + C k) - (B k + D k); grind
  rw [e] at this
  exact this
theorem Md.smul {f A B : Q F} (c : F) (h : Md f A B) : Md f (Po.smul c A) (Po.smul c B) := by
  have := I.smul c h
  have e : Po.smul c (sub A B) = sub (Po.smul c A) (Po.smul c B) := by funext k; show c * (A k - B k) = c * A k - c * B k; grind
  rw [e] at this
  exact this
theorem Md.sh {f A B : Q F} (h : Md f A B) : Md f (Po.sh A) (Po.sh B) := by
  have := I.sh h
  have e : Po.sh (sub A B) = sub (Po.sh A) (Po.sh B) := by
    funext k
    cases k with
    | zero => show (0 : F) = 0 - 0; grind
    | succ k => rfl
  rw [e] at this
  exact this
def sk : Nat → Q F → Q F
  | 0, f => f
  | n + 1, f => Po.sh (sk n f)
theorem Md.sk {f A B : Q F} (h : Md f A B) : ∀ n, Md f (Pl.sk n A) (Pl.sk n B)
  | 0 => h
  | n + 1 => (Md.sk h n).sh
theorem Md.mul {f A B : Q F} (us : List F) (h : Md f A B) : Md f (Po.mul us A) (Po.mul us B) := by
  have := I.mul h us
  rw [mul_sub] at this
  exact this
theorem Md.zero {f A : Q F} (h : I (Po.One f) A) : Md f A nil := by
  have e : sub A nil = A := by funext k; show A k - 0 = A k; grind
  show I _ _
  rw [e]
  exact h
theorem Md.in {f A B : Q F} (h : Md f A B) (hA : I (Po.One f) B) : I (Po.One f) A := by
  have := I.add h hA
  have e : Po.add (sub A B) B = A := by funext k; show (A k - B k) + B k = A k; grind
  rw [e] at this
  exact this
/-- the same ideal, a smaller one -/
theorem Md.into {f g A B : Q F} (h : Md f A B) (hf : I (Po.One g) f) : Md g A B := I.of (fun x e => by rw [e]; exact hf) h
theorem monic_lin (a : F) : Monic 1 (L a one) := by
  refine ⟨?_, fun k hk => ?_⟩
  · show (1 : F) - a * 0 = 1
    grind
  · match k, hk with
    | k + 2, _ => show (if k + 1 = 0 then (1 : F) else 0) - a * (if k + 2 = 0 then 1 else 0) = 0; rw [if_neg (by omega), if_neg (by omega)]; grind
/-- every list is its value, modulo a linear factor -/
theorem ev_mod (a : F) (us : List F) : Md (L a one) (lf us) (smul (ev us a) one) := by
  have h := syn_eq a one us
  rw [mul_one', mul_one'] at h
  have e : sub (lf us) (smul (ev us a) one) = L a (lf (syn a us)) := by
    rw [h]
    funext k
    show (L a (lf (syn a us)) k + ev us a * one k) - ev us a * one k = _
    grind
  show I _ _
  rw [e, ← mul_one', ← mul_L]
  exact I.mul (self _) _
theorem const0 {a c : F} (h : I (Po.One (L a one)) (smul c one)) : c = 0 := by
  have := less (monic_lin a) h (fun k hk => by show c * (if k = 0 then 1 else 0) = 0; rw [if_neg (by omega)]; grind) 0
  have e : c * (if (0 : Nat) = 0 then (1 : F) else 0) = 0 := this
  rw [if_pos rfl] at e
  grind
/-- alike modulo f: of the same value at a root of f -/
theorem ev_md {a : F} {us vs fs : List F} (h : Md (lf fs) (lf us) (lf vs)) (h0 : ev fs a = 0) : ev us a = ev vs a := by
  have hf : I (Po.One (L a one)) (lf fs) := by
    have := ev_mod a fs
    rw [h0] at this
    exact this.in (I.nil fun k => by show (0 : F) * one k = 0; grind)
  have h1 := (ev_mod a us).symm.trans ((h.into hf).trans (ev_mod a vs))
  have e : sub (smul (ev us a) one) (smul (ev vs a) one) = smul (ev us a - ev vs a) one := by
    funext k
    show ev us a * one k - ev vs a * one k = (ev us a - ev vs a) * one k
    grind
  have h2 : I (Po.One (L a one)) (smul (ev us a - ev vs a) one) := by rw [← e]; exact h1
  have := const0 h2
  grind
/-- what is 0 at all of some unlike roots is a multiple of their product -/
theorem vanish : ∀ (as us : List F), as.Nodup → (∀ a, a ∈ as → ev us a = 0) → I (Po.One (prod as)) (lf us)
  | [], us, _, _ => by
    show I (Po.One one) (lf us)
    rw [← mul_one']
    exact I.mul (self _) us
  | a :: as, us, hn, h => by
    have h1 := syn_eq a one us
    rw [mul_one', mul_one', h a (by simp)] at h1
    have e : lf us = L a (lf (syn a us)) := by
      rw [h1]
      funext k
      show L a (lf (syn a us)) k + 0 * one k = _
      grind
    rw [e]
    rw [List.nodup_cons] at hn
    refine I.map a (fun f hf => ?_) (vanish as (syn a us) hn.2 fun b hb => ?_)
    · rw [hf]; exact .base rfl
    · have := ev_syn a b us
      rw [h a (by simp), h b (by simp [hb])] at this
      have hne : b - a ≠ 0 := fun e => by
        have h9 : b = a := by grind
        exact hn.1 (h9 ▸ hb)
      rcases mul_eq_zero (show (b - a) * ev (syn a us) b = 0 by grind) with e1 | e1
      · exact absurd e1 hne
      · exact e1
theorem cancel {a : F} {Z : Q F} {n : Nat} (hs : ∀ k, n ≤ k → Z k = 0) (h : L a Z = nil) : ∀ k, Z k = 0 := by
  induction n with
  | zero => exact fun k => hs k (Nat.zero_le k)
  | succ n ih =>
    refine ih fun k hk => ?_
    rcases Nat.lt_or_eq_of_le hk with h1 | rfl
    · exact hs k h1
    · have e : Z n - a * Z (n + 1) = 0 := congrFun h (n + 1)
      rw [hs (n + 1) (Nat.le_refl _)] at e
      grind
theorem cancel2 {a : F} {X Y : Q F} {n : Nat} (hx : ∀ k, n ≤ k → X k = 0) (hy : ∀ k, n ≤ k → Y k = 0) (h : L a X = L a Y) : X = Y := by
  have h1 : L a (sub X Y) = nil := by
    funext k
    have e := congrFun h k
    have e2 : sh X k - a * X k = sh Y k - a * Y k := e
    show sh (sub X Y) k - a * (X k - Y k) = 0
    have e3 : sh (sub X Y) k = sh X k - sh Y k := by
      cases k with
      | zero => show (0 : F) = 0 - 0; grind
      | succ k => rfl
    rw [e3]
    grind
  have h2 := cancel (n := n) (fun k hk => by show X k - Y k = 0; rw [hx k hk, hy k hk]; grind) h1
  funext k
  have : X k - Y k = 0 := h2 k
  grind
theorem lf_far {us : List F} {k : Nat} (h : us.length ≤ k) : lf us k = 0 := by
  show us.getD k 0 = 0
  rw [List.getD_eq_getElem?_getD, List.getElem?_eq_none h]
  rfl
theorem mul_far {f : Q F} {n : Nat} (hf : ∀ k, n ≤ k → f k = 0) : ∀ us k, n + us.length ≤ k → mul us f k = 0
  | [], _, _ => rfl
  | u :: us, k, h => by
    rw [List.length_cons] at h
    show u * f k + sh (mul us f) k = 0
    rw [hf k (by omega)]
    match k, h with
    | 0, h => omega
    | k + 1, h =>
      show u * 0 + mul us f k = 0
      rw [mul_far hf us k (by omega)]
      grind
theorem monic_far {n : Nat} {f : Q F} (h : Monic n f) : ∀ k, n + 1 ≤ k → f k = 0 := fun k hk => h.2 k (by omega)
/-- products of linear factors, and their lists -/
theorem prod_list : ∀ as : List F, ∃ us : List F, lf us = prod as
  | [] => ⟨[1], by rw [← mul_one']; funext k; show 1 * one k + sh nil k = one k; have : sh (nil : Q F) k = 0 := by cases k <;> rfl
                   rw [this]; grind⟩
  | a :: as => by
    obtain ⟨us, h⟩ := prod_list as
    refine ⟨ladd (0 :: us) (us.map fun x => (-a) * x), ?_⟩
    rw [← mul_one', mul_ladd, mul_smul]
    show add (add (smul 0 one) (sh (mul us one))) (smul (-a) (mul us one)) = L a (prod as)
    rw [mul_one', h]
    funext k
    show (0 * one k + sh (prod as) k) + -a * prod as k = sh (prod as) k - a * prod as k
    grind
theorem evL {a b : F} {us vs : List F} (h : lf us = L a (lf vs)) : ev us b = (b - a) * ev vs b := by
  have h1 := ev_mod b us
  have h2 : Md (L b one) (L a (lf vs)) (smul ((b - a) * ev vs b) one) := by
    have h3 := ev_mod b vs
    have h4 := h3.sh.add (h3.smul (-a))
    have e1 : add (Po.sh (lf vs)) (Po.smul (-a) (lf vs)) = L a (lf vs) := by
      funext k
      show Po.sh (lf vs) k + -a * lf vs k = Po.sh (lf vs) k - a * lf vs k
      grind
    rw [e1] at h4
    refine h4.trans ?_
    have h5 : Md (L b one) (Po.sh (smul (ev vs b) one)) (smul (b * ev vs b) one) := by
      show I _ _
      have e : sub (Po.sh (smul (ev vs b) one)) (smul (b * ev vs b) one) = smul (ev vs b) (L b one) := by
        rw [sh_smul]
        funext k
        show ev vs b * Po.sh one k - b * ev vs b * one k = ev vs b * (Po.sh one k - b * one k)
        grind
      rw [e]
      exact .smul _ (.base rfl)
    refine (h5.add (Md.refl _ (Po.smul (-a) (smul (ev vs b) one)))).trans (Md.of ?_)
    funext k
    show b * ev vs b * one k + -a * (ev vs b * one k) = (b - a) * ev vs b * one k
    grind
  rw [← h] at h2
  have h6 := h1.symm.trans h2
  have e : sub (smul (ev us b) one) (smul ((b - a) * ev vs b) one) = smul (ev us b - (b - a) * ev vs b) one := by
    funext k
    show ev us b * one k - (b - a) * ev vs b * one k = (ev us b - (b - a) * ev vs b) * one k
    grind
  have h7 : I (Po.One (L b one)) (smul (ev us b - (b - a) * ev vs b) one) := by rw [← e]; exact h6
  have := const0 h7
  grind
theorem ev_one (b : F) (us : List F) (h : lf us = one) : ev us b = 1 := by
  have h1 := ev_mod b us
  rw [h] at h1
  have h2 : I (Po.One (L b one)) (smul (1 - ev us b) one) := by
    have e : sub one (smul (ev us b) one) = smul (1 - ev us b) one := by
      funext k
      show one k - ev us b * one k = (1 - ev us b) * one k
      grind
    rw [← e]
    exact h1
  have := const0 h2
  grind
/-- a product is 0 just at its roots -/
theorem ev_prod : ∀ (as us : List F) (b : F), lf us = prod as → (ev us b = 0 ↔ b ∈ as)
  | [], us, b, h => by
    have := ev_one b us h
    rw [this]
    simp [Fd.ne]
  | a :: as, us, b, h => by
    obtain ⟨vs, hv⟩ := prod_list as
    have h1 : lf us = L a (lf vs) := by rw [h, hv]; rfl
    rw [evL h1, List.mem_cons, ← ev_prod as vs b hv]
    constructor
    · intro e
      rcases mul_eq_zero e with e | e
      · exact .inl (by grind)
      · exact .inr e
    · rintro (e | e)
      · rw [e]; grind
      · rw [e]; grind
theorem prod_monic (as : List F) : Monic as.length (prod as) := by
  induction as with
  | nil => exact ⟨rfl, fun k hk => if_neg (by show ¬ k = 0; simp at hk; omega)⟩
  | cons a as ih =>
    refine ⟨?_, fun k hk => ?_⟩
    · show prod as as.length - a * prod as (as.length + 1) = 1
      rw [ih.1, ih.2 _ (by omega)]
      grind
    · rw [List.length_cons] at hk
      match k, hk with
      | k + 1, hk =>
        show prod as k - a * prod as (k + 1) = 0
        rw [ih.2 k (by omega), ih.2 (k + 1) (by omega)]
        grind
/-- what divides a product of linear factors is the product of some of them -/
theorem div_prod : ∀ (M fs gs : List F) (n : Nat), Monic n (lf fs) → mul gs (lf fs) = prod M → ∃ M' : List F, M'.Sublist M ∧ lf fs = prod M'
  | [], fs, gs, n, hm, h => by
    refine ⟨[], .slnil, ?_⟩
    have h1 : I (Po.One (prod ([] : List F))) (lf fs) := by
      show I (Po.One one) _
      rw [← mul_one']
      exact I.mul (self _) _
    have h2 : I (Po.One (lf fs)) (prod ([] : List F)) := by
      rw [← h]
      exact I.mul (self _) _
    exact same hm (prod_monic []) h1 h2
  | a :: M, fs, gs, n, hm, h => by
    have hP := monic_far (prod_monic M)
    have h1 : mul gs (lf fs) = L a (prod M) := h
    obtain ⟨ps, hps⟩ := prod_list M
    by_cases hf : ev fs a = 0
    · have e0 := syn_eq a one fs
      rw [mul_one', mul_one', hf] at e0
      have e1 : lf fs = L a (lf (syn a fs)) := by
        rw [e0]
        funext k
        show L a (lf (syn a fs)) k + 0 * one k = _
        grind
      have h2 : L a (mul gs (lf (syn a fs))) = L a (prod M) := by rw [← mul_L, ← e1]; exact h1
      have h3 : mul gs (lf (syn a fs)) = prod M :=
        cancel2 (n := (syn a fs).length + gs.length + M.length + 1) (fun k hk => mul_far (n := (syn a fs).length) (fun k hk => lf_far hk) gs k (by omega)) (fun k hk => hP k (by omega)) h2
      -- monic
      have up : ∀ k, lf (syn a fs) k = lf fs (k + 1) + a * lf (syn a fs) (k + 1) := fun k => by
        have : lf fs (k + 1) = lf (syn a fs) k - a * lf (syn a fs) (k + 1) := congrFun e1 (k + 1)
        rw [this]
        grind
      have z : ∀ j k, n ≤ k → fs.length ≤ k + j → lf (syn a fs) k = 0 := by
        intro j
        induction j with
        | zero => exact fun k _ hk => lf_far (by rw [syn_len]; omega)
        | succ j ih =>
          intro k h1 h2
          rw [up k, hm.2 (k + 1) (by omega), ih (k + 1) (by omega) (by omega)]
          grind
      have zz : ∀ k, n ≤ k → lf (syn a fs) k = 0 := fun k hk => z fs.length k hk (by omega)
      have hn0 : n ≠ 0 := by
        rintro rfl
        have e2 : lf fs 0 = 0 - a * lf (syn a fs) 0 := congrFun e1 0
        rw [hm.1, zz 0 (Nat.le_refl 0)] at e2
        exact Fd.ne (F := F) (by grind)
      have hmn : Monic (n - 1) (lf (syn a fs)) := by
        refine ⟨?_, fun k hk => zz k (by omega)⟩
        rw [up (n - 1), show n - 1 + 1 = n by omega, hm.1, zz n (Nat.le_refl n)]
        grind
      obtain ⟨M', hM', e⟩ := div_prod M (syn a fs) gs (n - 1) hmn h3
      exact ⟨a :: M', hM'.cons₂ a, by rw [e1, e]; rfl⟩
    · have hg : ev gs a = 0 := by
        have hI : I (Po.One (L a one)) (mul gs (lf fs)) := by
          rw [h1, ← hps, ← mul_one', ← mul_L]
          exact I.mul (self _) _
        have h5 : Md (L a one) (mul gs (lf fs)) (smul (ev fs a * ev gs a) one) := by
          refine ((ev_mod a fs).mul gs).trans ?_
          rw [mul_sm, mul_one']
          refine ((ev_mod a gs).smul (ev fs a)).trans (Md.of ?_)
          funext k
          show ev fs a * (ev gs a * one k) = ev fs a * ev gs a * one k
          grind
        have h6 := h5.symm.in hI
        rcases mul_eq_zero (const0 h6) with e | e
        · exact absurd e hf
        · exact e
      have e0 := syn_eq a (lf fs) gs
      rw [hg] at e0
      have e1 : mul gs (lf fs) = L a (mul (syn a gs) (lf fs)) := by
        rw [e0]
        funext k
        show L a (mul (syn a gs) (lf fs)) k + 0 * lf fs k = _
        grind
      have h3 : mul (syn a gs) (lf fs) = prod M :=
        cancel2 (n := fs.length + gs.length + M.length + 1) (fun k hk => mul_far (n := fs.length) (fun k hk => lf_far hk) _ k (by rw [syn_len]; omega)) (fun k hk => hP k (by omega)) (e1.symm.trans h1)
      obtain ⟨M', hM', e⟩ := div_prod M fs (syn a gs) n hm h3
      exact ⟨M', hM'.cons a, e⟩
/-- products that are the same have the same roots, each as often -/
theorem prod_perm : ∀ (A B : List F), prod A = prod B → A.Perm B
  | [], B, h => by
    have h1 := prod_monic B
    have h0 := prod_monic ([] : List F)
    rw [h] at h0
    cases B with
    | nil => exact .nil
    | cons b B =>
      have e := h0.2 (b :: B).length (by simp)
      rw [h1.1] at e
      exact absurd e Fd.ne
  | a :: A, B, h => by
    obtain ⟨us, hu⟩ := prod_list (a :: A)
    have ha : a ∈ B := (ev_prod B us a (hu.trans h)).mp ((ev_prod (a :: A) us a hu).mpr (by simp))
    have hp := List.perm_cons_erase ha
    have e : prod B = L a (prod (B.erase a)) := Ls_perm hp one
    have h2 : L a (prod A) = L a (prod (B.erase a)) := (show prod (a :: A) = _ from h).trans e
    have h3 := cancel2 (n := A.length + (B.erase a).length + 1) (fun k hk => monic_far (prod_monic A) k (by omega)) (fun k hk => monic_far (prod_monic (B.erase a)) k (by omega)) h2
    exact ((prod_perm A _ h3).cons a).trans hp.symm
/-- a linear factor and what is not 0 at its root are coprime -/
theorem cop_lin {b : F} {us : List F} (h : ev us b ≠ 0) : I (Two (L b one) (lf us)) one := by
  have h1 : I (Two (L b one) (lf us)) (sub (lf us) (smul (ev us b) one)) := I.of (fun f e => by rw [e]; exact .base (.inl rfl)) (ev_mod b us)
  have h2 := I.sub (I.base (S := Two (L b one) (lf us)) (.inr rfl)) h1
  have e : (fun k => lf us k - sub (lf us) (smul (ev us b) one) k) = smul (ev us b) one := by
    funext k
    show lf us k - (lf us k - ev us b * one k) = ev us b * one k
    grind
  rw [e] at h2
  exact h2.cancel h
theorem cop_prod {us : List F} : ∀ bs : List F, (∀ b, b ∈ bs → ev us b ≠ 0) → I (Two (prod bs) (lf us)) one
  | [], _ => .base (.inl rfl)
  | b :: bs, h => by
    have h1 := cop_lin (h b (by simp))
    have h2 : I (Two (prod (b :: bs)) (lf us)) (prod bs) := h1.mapLs bs fun f hf => by
      rcases hf with e | e
      · rw [e, Ls_L]; exact .base (.inl rfl)
      · rw [e]; exact I.Ls bs (.base (.inr rfl))
    exact (cop_prod bs fun c hc => h c (by simp [hc])).of fun f hf => by
      rcases hf with e | e
      · rw [e]; exact h2
      · rw [e]; exact .base (.inr rfl)
/-- the greatest common divisor of a product and what is 0 at just some of its roots -/
theorem gcd_prod {as bs us : List F} {n : Nat} {G : Q F} (hn : as.Nodup) (ha : ∀ a, a ∈ as → ev us a = 0) (hb : ∀ b, b ∈ bs → ev us b ≠ 0) (hG : Monic n G)
    (h : I (Two (prod (as ++ bs)) (lf us)) G) (h1 : I (Po.One G) (prod (as ++ bs))) (h2 : I (Po.One G) (lf us)) : G = prod as := by
  refine same hG (prod_monic as) (h.of fun f hf => ?_) ?_
  · rcases hf with e | e
    · rw [e]; exact common_of (.refl _)
    · rw [e]; exact vanish as us hn ha
  · have h3 : I (Po.One G) (Ls as one) := (cop_prod bs hb).mapLs as fun f hf => by
      rcases hf with e | e
      · rw [e]
        show I _ (Ls as (Ls bs one))
        rw [← Ls_app]
        exact h1
      · rw [e]; exact I.Ls as h2
    exact h3
/-- a quotient is one -/
theorem mul_inj {n : Nat} {T : Q F} (hT : Monic n T) : ∀ us, (∀ k, mul us T k = 0) → ∀ u, u ∈ us → u = 0
  | [], _, u, h => absurd h (by simp)
  | v :: us, h, u, hu => by
    have h1 : ∀ k, n ≤ k → mul us T k = 0 := fun k hk => by
      have e := h (k + 1)
      have e2 : v * T (k + 1) + mul us T k = 0 := e
      rw [hT.2 (k + 1) (by omega)] at e2
      grind
    have h2 := less_mul hT us h1
    have ih := mul_inj hT us h2
    rcases List.mem_cons.mp hu with rfl | hu
    · have e := h n
      have e2 : u * T n + sh (mul us T) n = 0 := e
      have e3 : sh (mul us T) n = 0 := by
        cases n with
        | zero => rfl
        | succ n => exact h2 n
      rw [hT.1, e3] at e2
      grind
    · exact ih u hu
theorem lf_zero {us : List F} (h : ∀ u, u ∈ us → u = 0) (k : Nat) : lf us k = 0 := by
  show us.getD k 0 = 0
  rw [List.getD_eq_getElem?_getD]
  cases e : us[k]? with
  | none => rfl
  | some u => exact h u (List.mem_of_getElem? e)
theorem mul_same {n : Nat} {T : Q F} (hT : Monic n T) {us vs : List F} (h : mul us T = mul vs T) : lf us = lf vs := by
  have h1 : mul (ladd us (vs.map fun x => -1 * x)) T = nil := by
    rw [mul_ladd, mul_smul, h]
    funext k
    show mul vs T k + -1 * mul vs T k = 0
    grind
  have h2 := lf_zero (mul_inj hT _ (fun k => congrFun h1 k))
  rw [← mul_one', ← mul_one']
  have h3 : mul (ladd us (vs.map fun x => -1 * x)) one = nil := by rw [mul_one']; funext k; exact h2 k
  rw [mul_ladd, mul_smul] at h3
  funext k
  have e : mul us one k + -1 * mul vs one k = 0 := congrFun h3 k
  grind
theorem mul_congr (f : Q F) : ∀ vs ws : List F, lf vs = lf ws → mul vs f = mul ws f := by
  intro vs
  induction vs with
  | nil =>
    intro ws h
    induction ws with
    | nil => rfl
    | cons w ws ih =>
      have hw : w = 0 := (congrFun h 0).symm
      have hs : lf ([] : List F) = lf ws := funext fun k => congrFun h (k + 1)
      show nil = add (smul w f) (sh (mul ws f))
      rw [← ih hs, hw]
      funext k
      have : sh (nil : Q F) k = 0 := by cases k <;> rfl
      show (0 : F) = 0 * f k + sh nil k
      rw [this]; grind
  | cons v vs ih =>
    intro ws h
    cases ws with
    | nil =>
      have hv : v = 0 := congrFun h 0
      have hs : lf vs = lf ([] : List F) := funext fun k => congrFun h (k + 1)
      show add (smul v f) (sh (mul vs f)) = nil
      rw [ih [] hs, hv]
      funext k
      have : sh (nil : Q F) k = 0 := by cases k <;> rfl
      show 0 * f k + sh nil k = (0 : F)
      rw [this]; grind
    | cons w ws =>
      have hv : v = w := congrFun h 0
      have hs : lf vs = lf ws := funext fun k => congrFun h (k + 1)
      show add (smul v f) (sh (mul vs f)) = add (smul w f) (sh (mul ws f))
      rw [ih ws hs, hv]
/-- lists and products: mul of a product's list -/
theorem mul_prod (as : List F) {us : List F} (h : lf us = prod as) (f : Q F) : mul us f = Ls as f := by
  induction as generalizing us with
  | nil =>
    have e : lf us = lf [1] := by
      rw [h, ← mul_one']
      funext k
      show one k = 1 * one k + sh nil k
      have : sh (nil : Q F) k = 0 := by cases k <;> rfl
      rw [this]; grind
    rw [mul_congr f us [1] e]
    funext k
    show 1 * f k + sh nil k = f k
    have : sh (nil : Q F) k = 0 := by cases k <;> rfl
    rw [this]; grind
  | cons a as ih =>
    have h0 : ev us a = 0 := (ev_prod (a :: as) us a h).mpr (by simp)
    have e0 := syn_eq a one us
    rw [mul_one', mul_one', h0] at e0
    have e1 : lf us = L a (lf (syn a us)) := by
      rw [e0]; funext k
      show L a (lf (syn a us)) k + 0 * one k = _
      grind
    have h2 : lf (syn a us) = prod as := cancel2 (n := us.length + as.length + 1) (fun k hk => lf_far (by rw [syn_len]; omega)) (fun k hk => monic_far (prod_monic as) k (by omega)) (e1.symm.trans h)
    have e2 := syn_eq a f us
    rw [h0, ih h2] at e2
    rw [e2]
    funext k
    show L a (Ls as f) k + 0 * f k = L a (Ls as f) k
    grind
end
end Pl
/-! Powers, x^P - x, squares. -/
namespace Px
open Po Pl Lean.Grind
section
variable {F : Type} [Fd F]
def px (a : F) : Nat → F
  | 0 => 1
  | n + 1 => a * px a n
theorem px_add (a : F) (m : Nat) : ∀ n, px a (m + n) = px a m * px a n
  | 0 => by show px a m = px a m * 1; grind
  | n + 1 => by
    show a * px a (m + n) = px a m * (a * px a n)
    rw [px_add a m n]
    grind
theorem px_mul (a b : F) : ∀ n, px (a * b) n = px a n * px b n
  | 0 => by show (1 : F) = 1 * 1; grind
  | n + 1 => by
    show a * b * px (a * b) n = a * px a n * (b * px b n)
    rw [px_mul a b n]
    grind
theorem px_one : ∀ n, px (1 : F) n = 1
  | 0 => rfl
  | n + 1 => by show 1 * px (1 : F) n = 1; rw [px_one n]; grind
theorem px_zero : ∀ n, 0 < n → px (0 : F) n = 0
  | n + 1, _ => by show 0 * px (0 : F) n = 0; grind
theorem sk_at : ∀ (n : Nat) (f : Q F) (k : Nat), sk n f k = if k < n then 0 else f (k - n)
  | 0, f, k => by simp [sk]
  | n + 1, f, 0 => by simp [sk, sh]
  | n + 1, f, k + 1 => by
    show sk n f k = _
    rw [sk_at n f k]
    by_cases h : k < n
    · rw [if_pos h, if_pos (by omega)]
    · rw [if_neg h, if_neg (by omega)]
      congr 1
      omega
theorem sk_sk (m : Nat) (f : Q F) : ∀ n, sk n (sk m f) = sk (m + n) f
  | 0 => rfl
  | n + 1 => by show sh (sk n (sk m f)) = sh (sk (m + n) f); rw [sk_sk m f n]
theorem sk_smul (c : F) (f : Q F) : ∀ n, sk n (smul c f) = smul c (sk n f)
  | 0 => rfl
  | n + 1 => by show sh (sk n (smul c f)) = smul c (sh (sk n f)); rw [sk_smul c f n, sh_smul]
theorem sk_add (f g : Q F) : ∀ n, sk n (add f g) = add (sk n f) (sk n g)
  | 0 => rfl
  | n + 1 => by show sh (sk n (add f g)) = add (sh (sk n f)) (sh (sk n g)); rw [sk_add f g n, sh_add]
theorem mul_sk (us : List F) (f : Q F) : ∀ n, mul us (sk n f) = sk n (mul us f)
  | 0 => rfl
  | n + 1 => by show mul us (sh (sk n f)) = sh (sk n (mul us f)); rw [mul_sh, mul_sk us f n]
def zs (n : Nat) (us : List F) : List F := List.replicate n 0 ++ us
theorem lf_zs (us : List F) : ∀ n, lf (zs n us) = sk n (lf us)
  | 0 => rfl
  | n + 1 => by
    show lf (0 :: zs n us) = sh (sk n (lf us))
    rw [lf_cons, lf_zs us n]
    funext k
    show 0 * one k + sh (sk n (lf us)) k = _
    grind
theorem ev_zs (us : List F) (a : F) : ∀ n, ev (zs n us) a = px a n * ev us a
  | 0 => by show ev us a = 1 * ev us a; grind
  | n + 1 => by
    show 0 + a * ev (zs n us) a = a * px a n * ev us a
    rw [ev_zs us a n]
    grind
theorem ev_ladd (a : F) : ∀ us vs, ev (ladd us vs) a = ev us a + ev vs a
  | [], vs => by show ev vs a = 0 + ev vs a; grind
  | u :: us, [] => by show ev (u :: us) a = ev (u :: us) a + 0; grind
  | u :: us, v :: vs => by
    show (u + v) + a * ev (ladd us vs) a = (u + a * ev us a) + (v + a * ev vs a)
    rw [ev_ladd a us vs]
    grind
theorem ev_map (c a : F) : ∀ us, ev (us.map fun x => c * x) a = c * ev us a
  | [] => by show (0 : F) = c * 0; grind
  | u :: us => by
    show c * u + a * ev (us.map fun x => c * x) a = c * (u + a * ev us a)
    rw [ev_map c a us]
    grind
theorem lf_ladd (us vs : List F) : lf (ladd us vs) = add (lf us) (lf vs) := by
  rw [← mul_one', mul_ladd, mul_one', mul_one']
theorem lf_map (c : F) (us : List F) : lf (us.map fun x => c * x) = smul c (lf us) := by
  rw [← mul_one', mul_smul, mul_one']
theorem lf_one : lf [(1 : F)] = one := by
  rw [← mul_one']
  funext k
  show 1 * one k + sh nil k = one k
  have : sh (nil : Q F) k = 0 := by cases k <;> rfl
  rw [this]; grind
/-- x^n - x -/
def xq (n : Nat) : List F := ladd (zs n [1]) [0, -1]
theorem lf_xq (n : Nat) : lf (xq n : List F) = sub (sk n one) (sk 1 one) := by
  unfold xq
  rw [lf_ladd, lf_zs, lf_one]
  funext k
  show sk n one k + ([0, -1] : List F).getD k 0 = sk n one k - sk 1 one k
  have : ([0, -1] : List F).getD k 0 = - sk 1 one k := by
    match k with
    | 0 => show (0 : F) = -0; grind
    | 1 => show (-1 : F) = -(if (0 : Nat) = 0 then 1 else 0); rw [if_pos rfl]
    | k + 2 => show (0 : F) = -(if k + 1 = 0 then 1 else 0); rw [if_neg (by omega)]; grind
  rw [this]
  grind
theorem ev_xq (n : Nat) (a : F) : ev (xq n : List F) a = px a n - a := by
  unfold xq
  rw [ev_ladd, ev_zs]
  show px a n * (1 + a * 0) + (0 + a * (-1 + a * 0)) = _
  grind
theorem monic_xq {n : Nat} (h : 2 ≤ n) : Monic n (lf (xq n : List F)) := by
  rw [lf_xq]
  refine ⟨?_, fun k hk => ?_⟩
  · show sk n one n - sk 1 one n = 1
    rw [sk_at, sk_at, if_neg (by omega), if_neg (by omega)]
    show (if n - n = 0 then (1 : F) else 0) - (if n - 1 = 0 then 1 else 0) = 1
    rw [if_pos (by omega), if_neg (by omega)]
    grind
  · show sk n one k - sk 1 one k = 0
    rw [sk_at, sk_at, if_neg (by omega), if_neg (by omega)]
    show (if k - n = 0 then (1 : F) else 0) - (if k - 1 = 0 then 1 else 0) = 0
    rw [if_neg (by omega), if_neg (by omega)]
    grind
/-- the product over all of a finite field -/
theorem prod_all {all : List F} {n : Nat} (hn : all.Nodup) (hl : all.length = n) (h2 : 2 ≤ n) (hf : ∀ a : F, px a n = a) : prod all = lf (xq n) := by
  have hv : I (Po.One (prod all)) (lf (xq n)) := vanish all (xq n) hn fun a _ => by rw [ev_xq, hf a]; grind
  have hm := prod_monic all
  rw [hl] at hm
  have hq : Monic n (lf (xq n : List F)) := monic_xq h2
  have h0 := less hm (I.sub hv (self _)) (fun k hk => by
    rcases Nat.lt_or_eq_of_le hk with h | rfl
    · rw [hq.2 k h, hm.2 k h]; grind
    · rw [hq.1, hm.1]; grind)
  funext k
  have := h0 k
  grind
/-- to divide x^n - x is to split into unlike linear factors -/
theorem split_iff {all fs : List F} {n m : Nat} (hn : all.Nodup) (hl : all.length = n) (h2 : 2 ≤ n) (hf : ∀ a : F, px a n = a) (hm : Monic m (lf fs)) :
    I (Po.One (lf fs)) (lf (xq n)) ↔ ∃ M : List F, M.Nodup ∧ lf fs = prod M := by
  constructor
  · intro h
    obtain ⟨gs, hg⟩ := mul_of h
    obtain ⟨M, hM, e⟩ := div_prod all fs gs m hm (hg.symm.trans (prod_all hn hl h2 hf).symm)
    exact ⟨M, hM.nodup hn, e⟩
  · rintro ⟨M, hM, e⟩
    rw [e]
    exact vanish M (xq n) hM fun a _ => by rw [ev_xq, hf a]; grind
/-- the roots of a quadratic polynomial -/
theorem quad_of {e g t y : F} (hy : y * 2 = 1) (ht : t * t = e * e - 4 * g) (h0 : t ≠ 0) : ∃ r s : F, r ≠ s ∧ lf [g, e, 1] = prod [r, s] := by
  refine ⟨y * (t - e), y * (-t - e), fun h => h0 ?_, ?_⟩
  · have : (2 * y) * t = (2 * y) * 0 + (y * (t - e) - y * (-t - e)) := by grind
    have h1 : 2 * y = 1 := by grind
    rw [h1] at this
    grind
  · funext k
    have hl : ∀ (r : F) (f : Q F) k, L r f k = sh f k - r * f k := fun _ _ _ => rfl
    match k with
    | 0 =>
      show g = 0 - y * (t - e) * (0 - y * (-t - e) * (if (0 : Nat) = 0 then 1 else 0))
      rw [if_pos rfl]
      have h4 : (y * 2) * (y * 2) * g = g := by rw [hy]; grind
      grind
    | 1 =>
      show e = (0 - y * (-t - e) * (if (0 : Nat) = 0 then 1 else 0)) - y * (t - e) * ((if (0 : Nat) = 0 then 1 else 0) - y * (-t - e) * (if (1 : Nat) = 0 then 1 else 0))
      rw [if_pos rfl, if_neg (by omega)]
      have h4 : (y * 2) * e = e := by rw [hy]; grind
      grind
    | 2 =>
      show (1 : F) = ((if (0 : Nat) = 0 then 1 else 0) - y * (-t - e) * (if (1 : Nat) = 0 then 1 else 0)) - y * (t - e) * ((if (1 : Nat) = 0 then 1 else 0) - y * (-t - e) * (if (2 : Nat) = 0 then 1 else 0))
      rw [if_pos rfl, if_neg (by omega), if_neg (by omega)]
      grind
    | k + 3 =>
      show (0 : F) = ((if k + 1 = 0 then 1 else 0) - y * (-t - e) * (if k + 2 = 0 then 1 else 0)) - y * (t - e) * ((if k + 2 = 0 then 1 else 0) - y * (-t - e) * (if k + 3 = 0 then 1 else 0))
      rw [if_neg (by omega), if_neg (by omega), if_neg (by omega)]
      grind
theorem quad_to {e g r s : F} (h : lf [g, e, 1] = prod [r, s]) : e * e - 4 * g = (r - s) * (r - s) := by
  have h0 : g = 0 - r * (0 - s * (if (0 : Nat) = 0 then 1 else 0)) := congrFun h 0
  have h1 : e = (0 - s * (if (0 : Nat) = 0 then 1 else 0)) - r * ((if (0 : Nat) = 0 then 1 else 0) - s * (if (1 : Nat) = 0 then 1 else 0)) := congrFun h 1
  rw [if_pos rfl] at h0 h1
  rw [if_neg (by omega)] at h1
  rw [h0, h1]
  grind
end
/-! ### modulo 2^61 - 1 -/
abbrev F := Fin Pr.P
theorem px_val (a : F) : ∀ n, (px a n).val = a.val ^ n % Pr.P
  | 0 => rfl
  | n + 1 => by
    show (a * px a n).val = _
    rw [Fin.val_mul, px_val a n, Nat.mul_mod_mod, Nat.pow_succ, Nat.mul_comm]
theorem fin_ne {a : F} (h : a ≠ 0) : a.val % Pr.P ≠ 0 := by
  rw [Nat.mod_eq_of_lt a.isLt]
  exact fun e => h (Fin.ext e)
theorem px_ferm {a : F} (h : a ≠ 0) : px a (Pr.P - 1) = 1 := Fin.ext (by rw [px_val, Pr.fermat (fin_ne h)]; rfl)
def hf : Nat := 1152921504606846975
theorem hf2 : hf + hf = Pr.P - 1 := rfl
theorem ferm (a : F) : px a Pr.P = a := by
  by_cases h : a = 0
  · rw [h]
    exact px_zero _ Pr.P_pos
  · have e : Pr.P = 1 + (Pr.P - 1) := rfl
    rw [e, px_add, px_ferm h]
    have g : ∀ x : F, px x 1 * 1 = x := fun x => by
      show x * 1 * 1 = x
      rw [Semiring.mul_one, Semiring.mul_one]
    exact g a
theorem sq_one {R : Type} [Fd R] {x : R} (h : x * x = 1) : x = 1 ∨ x = -1 := by
  have : (x - 1) * (x + 1) = 0 := by grind
  rcases mul_eq_zero this with e | e
  · exact .inl (by grind)
  · exact .inr (by grind)
theorem chi_two {a : F} (h : a ≠ 0) : px a hf = 1 ∨ px a hf = -1 := by
  refine sq_one ?_
  rw [← px_add, hf2, px_ferm h]
theorem chi3n (n : Nat) (h : n = 3) : n ^ hf % Pr.P = Pr.P - 1 := by
  have e := Pr.pm_eq 61 n hf (by decide)
  rw [← e, h]
  decide +kernel
theorem chi3 : px (3 : F) hf = -1 := Fin.ext ((px_val 3 hf).trans (chi3n _ rfl))
theorem neg_neg1 {R : Type} [Fd R] : (-1 : R) * -1 = 1 := by grind
theorem chi {a : F} (h : a ≠ 0) : px a hf = 1 ∨ px (3 * a) hf = 1 := by
  rcases chi_two h with e | e
  · exact .inl e
  · refine .inr ?_
    rw [px_mul, chi3, e]
    exact neg_neg1
theorem root_of {g : F} (h : px g hf = 1) : ∃ t : F, t * t = g := by
  refine ⟨px g 576460752303423488, ?_⟩
  rw [← px_add, show 576460752303423488 + 576460752303423488 = 1 + hf from rfl, px_add, h]
  show g * 1 * 1 = g
  rw [Semiring.mul_one, Semiring.mul_one]
def all : List F := List.finRange Pr.P
theorem all_nodup : all.Nodup := List.nodup_finRange _
theorem all_len : all.length = Pr.P := List.length_finRange
theorem splits {fs : List F} {m : Nat} (hm : Monic m (lf fs)) : I (Po.One (lf fs)) (lf (xq Pr.P)) ↔ ∃ M : List F, M.Nodup ∧ lf fs = prod M :=
  split_iff all_nodup all_len (by decide) ferm hm
/-- half of 1 -/
theorem half2 : (⟨1152921504606846976, by decide⟩ : F) * 2 = 1 := rfl
theorem sqx {R : Type} [Fd R] (r s : R) (h : r - s = 0) : r = s := by grind
theorem zz {R : Type} [Fd R] {t x : R} (h : t * t = x) (h0 : t = 0) : x = 0 := by grind
/-- a quadratic polynomial splits just if Euler's word says so -/
theorem quad {e g : F} : px (e * e - 4 * g) hf = 1 ↔ ∃ r s : F, r ≠ s ∧ lf [g, e, 1] = prod [r, s] := by
  constructor
  · intro h
    obtain ⟨t, ht⟩ := root_of h
    have h0 : t ≠ 0 := fun e0 => by
      rw [zz ht e0, px_zero _ (by decide)] at h
      exact absurd h.symm Fd.ne
    exact quad_of half2 ht h0
  · rintro ⟨r, s, hrs, h⟩
    rw [quad_to h, px_mul, ← px_add, hf2]
    exact px_ferm fun e => hrs (sqx r s e)
end Px
/-! Packed lists: numbers of 150 bits side by side in one int; one step of the half power. -/
namespace Pk
open Po Pl Px Pg Lean.Grind
abbrev F := Fin Pr.P
abbrev PP : Nat := 2305843009213693951
theorem cf_lf (l : List Nat) : cf l = lf (l.map fun (n : Nat) => c (n : Int)) := by
  funext k
  show c ((l.getD k 0 : Nat) : Int) = (l.map fun (n : Nat) => c (n : Int)).getD k 0
  rw [List.getD_eq_getElem?_getD, List.getD_eq_getElem?_getD, List.getElem?_map]
  cases l[k]? <;> rfl
def cn (n : Nat) : F := c (n : Int)
theorem cn_add (a b : Nat) : cn (a + b) = cn a + cn b := by unfold cn; rw [Int.natCast_add, c_add]
theorem cn_mul (a b : Nat) : cn (a * b) = cn a * cn b := by unfold cn; rw [Int.natCast_mul, c_mul]
theorem cn_mod (a : Nat) : cn (a % PP) = cn a := by
  have : ((a % PP : Nat) : Int) = (md (a : Int) : Int) := by rw [md_int, Int.natCast_emod]; rfl
  unfold cn
  rw [this, c_md]
theorem cn_val (a : F) : cn a.val = a := Fin.ext (by show (c (a.val : Int)).val = _; rw [c_val, md_id a.isLt])
theorem cn_inj {a b : Nat} (ha : a < PP) (hb : b < PP) (h : cn a = cn b) : a = b := c_inj ha hb h
def pkv : List Nat → Nat
  | [] => 0
  | n :: l => n + 2 ^ 150 * pkv l
def un (t m : Nat) : List Nat := (List.range m).map fun k => t / 2 ^ (150 * k) % 2 ^ 150 % PP
theorem un_len (t m : Nat) : (un t m).length = m := by unfold un; rw [List.length_map, List.length_range]
theorem un_at {t m k : Nat} (h : k < m) : (un t m).getD k 0 = t / 2 ^ (150 * k) % 2 ^ 150 % PP := by
  unfold un
  rw [List.getD_eq_getElem?_getD, List.getElem?_map, List.getElem?_range h]
  rfl
theorem un_far {t m k : Nat} (h : m ≤ k) : (un t m).getD k 0 = 0 := by
  rw [List.getD_eq_getElem?_getD, List.getElem?_eq_none (by rw [un_len]; exact h)]
  rfl
theorem un_pm (t m : Nat) : Pm (un t m) := fun n hn => by
  obtain ⟨k, _, rfl⟩ := List.mem_map.mp hn
  exact Nat.mod_lt _ (by decide)
/-- entries below a bound -/
def Lt (b : Nat) (l : List Nat) : Prop := ∀ n, n ∈ l → n < b
theorem Lt.at {b : Nat} {l : List Nat} (h : Lt b l) (hb : 0 < b) (k : Nat) : l.getD k 0 < b := by
  rw [List.getD_eq_getElem?_getD]
  cases e : l[k]? with
  | none => exact hb
  | some n => exact h n (List.mem_of_getElem? e)
theorem Lt.of {b : Nat} {l : List Nat} (h : ∀ k, k < l.length → l.getD k 0 < b) : Lt b l := fun n hn => by
  obtain ⟨k, e⟩ := List.mem_iff_getElem?.mp hn
  have hk := (List.getElem?_eq_some_iff.mp e).1
  have := h k hk
  rw [List.getD_eq_getElem?_getD, e] at this
  exact this
theorem pow_pos (k : Nat) : 0 < 2 ^ k := Nat.two_pow_pos k
theorem pk_lt {l : List Nat} (h : Lt (2 ^ 150) l) : pkv l < 2 ^ (150 * l.length) := by
  induction l with
  | nil => exact Nat.one_pos
  | cons n l ih =>
    have h1 := ih fun m hm => h m (by simp [hm])
    have h0 := h n (by simp)
    show n + 2 ^ 150 * pkv l < 2 ^ (150 * (l.length + 1))
    rw [show 150 * (l.length + 1) = 150 + 150 * l.length by omega, Nat.pow_add]
    have : 2 ^ 150 * (pkv l + 1) ≤ 2 ^ 150 * 2 ^ (150 * l.length) := Nat.mul_le_mul_left _ h1
    rw [Nat.mul_add] at this
    omega
/-- the digits of a packed list -/
theorem digit : ∀ (l : List Nat), Lt (2 ^ 150) l → ∀ k, pkv l / 2 ^ (150 * k) % 2 ^ 150 = l.getD k 0
  | [], _, k => by show 0 / 2 ^ (150 * k) % 2 ^ 150 = 0; rw [Nat.zero_div]
  | n :: l, h, 0 => by
    show (n + 2 ^ 150 * pkv l) / 2 ^ 0 % 2 ^ 150 = n
    rw [Nat.pow_zero, Nat.div_one, Nat.add_mul_mod_self_left]
    exact Nat.mod_eq_of_lt (h n (by simp))
  | n :: l, h, k + 1 => by
    show (n + 2 ^ 150 * pkv l) / 2 ^ (150 * (k + 1)) % 2 ^ 150 = l.getD k 0
    rw [show 150 * (k + 1) = 150 + 150 * k by omega, Nat.pow_add, ← Nat.div_div_eq_div_mul, Nat.add_mul_div_left _ _ (pow_pos 150), Nat.div_eq_of_lt (h n (by simp)), Nat.zero_add]
    exact digit l (fun m hm => h m (by simp [hm])) k
/-- what stands beyond doesn't matter -/
theorem low {x t m k : Nat} (h : k < m) : (x + 2 ^ (150 * m) * t) / 2 ^ (150 * k) % 2 ^ 150 = x / 2 ^ (150 * k) % 2 ^ 150 := by
  have e : 2 ^ (150 * m) * t = 2 ^ (150 * k) * (2 ^ 150 * (2 ^ (150 * (m - k - 1)) * t)) := by
    rw [← Nat.mul_assoc, ← Nat.mul_assoc, ← Nat.pow_add, ← Nat.pow_add]
    congr 2
    omega
  rw [e, Nat.add_mul_div_left _ _ (pow_pos _), Nat.add_mul_mod_self_left]
/-! ### sums and products of lists -/
def nadd : List Nat → List Nat → List Nat
  | [], b => b
  | a, [] => a
  | x :: a, y :: b => (x + y) :: nadd a b
def nmul : List Nat → List Nat → List Nat
  | [], _ => []
  | u :: us, b => nadd (b.map fun x => u * x) (0 :: nmul us b)
theorem nadd_at : ∀ (a b : List Nat) (k : Nat), (nadd a b).getD k 0 = a.getD k 0 + b.getD k 0
  | [], b, k => by show b.getD k 0 = 0 + b.getD k 0; omega
  | x :: a, [], k => by show (x :: a).getD k 0 = (x :: a).getD k 0 + 0; omega
  | x :: a, y :: b, 0 => rfl
  | x :: a, y :: b, k + 1 => nadd_at a b k
theorem nadd_len : ∀ (a b : List Nat), (nadd a b).length = max a.length b.length
  | [], b => by show b.length = max 0 b.length; omega
  | x :: a, [] => by show (x :: a).length = max (x :: a).length 0; omega
  | x :: a, y :: b => by
    show (nadd a b).length + 1 = max (a.length + 1) (b.length + 1)
    rw [nadd_len a b]
    omega
theorem pk_nadd : ∀ (a b : List Nat), pkv (nadd a b) = pkv a + pkv b
  | [], b => by show pkv b = 0 + pkv b; omega
  | x :: a, [] => by show pkv (x :: a) = pkv (x :: a) + 0; omega
  | x :: a, y :: b => by
    show x + y + 2 ^ 150 * pkv (nadd a b) = (x + 2 ^ 150 * pkv a) + (y + 2 ^ 150 * pkv b)
    rw [pk_nadd a b, Nat.mul_add]
    omega
theorem pk_map (u : Nat) : ∀ b : List Nat, pkv (b.map fun x => u * x) = u * pkv b
  | [] => rfl
  | x :: b => by
    show u * x + 2 ^ 150 * pkv (b.map fun x => u * x) = u * (x + 2 ^ 150 * pkv b)
    rw [pk_map u b, Nat.mul_add, Nat.mul_left_comm]
theorem pk_nmul : ∀ a b : List Nat, pkv (nmul a b) = pkv a * pkv b
  | [], b => by show 0 = 0 * pkv b; omega
  | u :: us, b => by
    show pkv (nadd (b.map fun x => u * x) (0 :: nmul us b)) = (u + 2 ^ 150 * pkv us) * pkv b
    rw [pk_nadd, pk_map]
    show u * pkv b + (0 + 2 ^ 150 * pkv (nmul us b)) = _
    rw [pk_nmul us b, Nat.add_mul, Nat.zero_add, Nat.mul_assoc]
theorem pk_app (a b : List Nat) : pkv (a ++ b) = pkv a + 2 ^ (150 * a.length) * pkv b := by
  induction a with
  | nil => show pkv b = 0 + 2 ^ 0 * pkv b; rw [Nat.pow_zero]; omega
  | cons x a ih =>
    show x + 2 ^ 150 * pkv (a ++ b) = x + 2 ^ 150 * pkv a + 2 ^ (150 * (a.length + 1)) * pkv b
    rw [ih, Nat.mul_add, ← Nat.mul_assoc, ← Nat.pow_add, show 150 + 150 * a.length = 150 * (a.length + 1) by omega]
    omega
theorem cf_nadd (a b : List Nat) : cf (nadd a b) = add (cf a) (cf b) := by
  funext k
  show cn ((nadd a b).getD k 0) = cn (a.getD k 0) + cn (b.getD k 0)
  rw [nadd_at, cn_add]
theorem cf_nmap (u : Nat) (b : List Nat) : cf (b.map fun x => u * x) = smul (cn u) (cf b) := by
  funext k
  show cn ((b.map fun x => u * x).getD k 0) = cn u * cn (b.getD k 0)
  rw [← cn_mul, List.getD_eq_getElem?_getD, List.getD_eq_getElem?_getD, List.getElem?_map]
  cases b[k]? with
  | none => rfl
  | some n => rfl
theorem cf_cons0 (l : List Nat) : cf (0 :: l) = sh (cf l) := by
  funext k
  cases k <;> rfl
theorem cf_nmul : ∀ a b : List Nat, cf (nmul a b) = mul (a.map cn) (cf b)
  | [], b => by funext k; rfl
  | u :: us, b => by
    show cf (nadd (b.map fun x => u * x) (0 :: nmul us b)) = add (smul (cn u) (cf b)) (sh (mul (us.map cn) (cf b)))
    rw [cf_nadd, cf_nmap, cf_cons0, cf_nmul us b]
theorem nmul_len : ∀ (a b : List Nat), 0 < a.length → 0 < b.length → (nmul a b).length = a.length + b.length - 1
  | [u], b, _, hb => by
    show (nadd (b.map fun x => u * x) [0]).length = 1 + b.length - 1
    rw [nadd_len, List.length_map]
    show max b.length 1 = _
    omega
  | u :: v :: us, b, _, hb => by
    show (nadd (b.map fun x => u * x) (0 :: nmul (v :: us) b)).length = us.length + 1 + 1 + b.length - 1
    rw [nadd_len, List.length_map, List.length_cons, nmul_len (v :: us) b (by simp) hb, List.length_cons]
    omega
theorem nmul_lt : ∀ (a b : List Nat), Pm a → Pm b → ∀ k, (nmul a b).getD k 0 ≤ a.length * (PP * PP)
  | [], b, _, _, k => by show 0 ≤ _; omega
  | u :: us, b, ha, hb, k => by
    show (nadd (b.map fun x => u * x) (0 :: nmul us b)).getD k 0 ≤ (us.length + 1) * (PP * PP)
    rw [nadd_at, Nat.add_mul]
    have h1 : (b.map fun x => u * x).getD k 0 ≤ 1 * (PP * PP) := by
      rw [List.getD_eq_getElem?_getD, List.getElem?_map]
      cases e : b[k]? with
      | none => exact Nat.zero_le _
      | some n =>
        show u * n ≤ _
        rw [Nat.one_mul]
        exact Nat.mul_le_mul (Nat.le_of_lt (ha u (by simp))) (Nat.le_of_lt (hb n (List.mem_of_getElem? e)))
    have h2 : (0 :: nmul us b).getD k 0 ≤ us.length * (PP * PP) := by
      cases k with
      | zero => exact Nat.zero_le _
      | succ k => exact nmul_lt us b (fun m hm => ha m (by simp [hm])) hb k
    omega
/-! ### the rows: the powers from the degree on -/
/-- x times a row, the top taken down -/
def nxt (first row : List Nat) : List Nat := List.zipWith (fun (lo n : Nat) => md ((lo : Int) + (row.getD (row.length - 1) 0 : Nat) * (n : Int))) (0 :: row.take (row.length - 1)) first
def frst (f : List Nat) : List Nat := (f.take (f.length - 1)).map fun (n : Nat) => md (-(n : Int))
def rows (first : List Nat) : Nat → List Nat → List (List Nat)
  | 0, _ => []
  | n + 1, row => row :: rows first n (nxt first row)
structure Row (f : List Nat) (d n : Nat) (r : List Nat) : Prop where
  len : r.length = d
  pm : Pm r
  md : Md (cf f) (cf r) (sk n one)
theorem frst_at {f : List Nat} {d : Nat} (hl : f.length = d + 1) (k : Nat) (h : k < d) : (frst f).getD k 0 = md (-((f.getD k 0 : Nat) : Int)) := by
  unfold frst
  rw [hl, Nat.add_sub_cancel, List.getD_eq_getElem?_getD, List.getElem?_map, List.getElem?_take, if_pos h, List.getD_eq_getElem?_getD, List.getElem?_eq_getElem (by omega)]
  rfl
theorem frst_len {f : List Nat} {d : Nat} (hl : f.length = d + 1) : (frst f).length = d := by
  unfold frst
  rw [List.length_map, List.length_take]
  omega
theorem g20 {R : Type} [Fd R] (a : R) : (0 : R) - a = -a := by grind
theorem g21 {R : Type} [Fd R] (a b : R) : a - (a - b) = b := by grind
theorem frst_cf {f : List Nat} {d : Nat} (hl : f.length = d + 1) (hm : Monic d (cf f)) : cf (frst f) = sub (sk d one) (cf f) := by
  funext k
  show cn ((frst f).getD k 0) = sk d one k - cf f k
  rw [sk_at]
  by_cases h : k < d
  · rw [if_pos h, frst_at hl k h, g20]
    show c (md _ : Nat) = _
    rw [c_md, c_neg]
    rfl
  · have e0 : (frst f).getD k 0 = 0 := by
      rw [List.getD_eq_getElem?_getD, List.getElem?_eq_none (by rw [frst_len hl]; omega)]
      rfl
    rw [if_neg h, e0]
    by_cases h2 : k = d
    · subst h2
      rw [hm.1]
      show (0 : F) = (if k - k = 0 then 1 else 0) - 1
      rw [if_pos (by omega)]
      rfl
    · rw [hm.2 k (by omega)]
      show (0 : F) = (if k - d = 0 then 1 else 0) - 0
      rw [if_neg (by omega)]
      rfl
theorem frst_row {f : List Nat} {d : Nat} (hl : f.length = d + 1) (hm : Monic d (cf f)) : Row f d d (frst f) where
  len := frst_len hl
  pm := fun n hn => by
    unfold frst at hn
    obtain ⟨x, _, rfl⟩ := List.mem_map.mp hn
    exact md_lt _
  md := by
    show I _ (sub (cf (frst f)) (sk d one))
    rw [frst_cf hl hm]
    have h := (self (cf f)).smul (-1)
    have e : smul (-1) (cf f) = sub (sub (sk d one) (cf f)) (sk d one) := by
      funext k
      have g : ∀ {R : Type} [Fd R] (a b : R), -1 * a = (b - a) - b := fun a b => by grind
      exact g _ _
    rw [e] at h
    exact h
theorem nxt_at {first row : List Nat} {d : Nat} (h1 : first.length = d) (h2 : row.length = d) (k : Nat) (h : k < d) :
    (nxt first row)[k]? = some (md (((if k = 0 then 0 else row.getD (k - 1) 0 : Nat) : Int) + (row.getD (d - 1) 0 : Nat) * (first.getD k 0 : Nat))) := by
  unfold nxt
  rw [List.getElem?_zipWith, h2]
  have e1 : (0 :: row.take (d - 1))[k]? = some (if k = 0 then 0 else row.getD (k - 1) 0) := by
    cases k with
    | zero => rfl
    | succ k =>
      rw [List.getElem?_cons_succ, List.getElem?_take, if_pos (by omega), List.getElem?_eq_getElem (by omega)]
      simp [List.getD_eq_getElem?_getD, List.getElem?_eq_getElem (show k < row.length by omega)]
  have e2 : first[k]? = some (first.getD k 0) := by
    rw [List.getD_eq_getElem?_getD, List.getElem?_eq_getElem (by omega)]
    rfl
  rw [e1, e2]
theorem nxt_len {first row : List Nat} {d : Nat} (h1 : first.length = d) (h2 : row.length = d) : (nxt first row).length = d := by
  unfold nxt
  rw [List.length_zipWith, List.length_cons, List.length_take, h2, h1]
  omega
theorem nxt_row {f first row : List Nat} {d n : Nat} (h0 : 0 < d) (hF : Row f d d first) (h : Row f d n row) : Row f d (n + 1) (nxt first row) where
  len := nxt_len hF.len h.len
  pm := fun m hm => by
    obtain ⟨i, hi⟩ := List.mem_iff_getElem?.mp hm
    have hl := (List.getElem?_eq_some_iff.mp hi).1
    rw [nxt_len hF.len h.len] at hl
    rw [nxt_at hF.len h.len i hl] at hi
    cases hi
    exact md_lt _
  md := by
    have e : cf (nxt first row) = add (add (sh (cf row)) (smul (-(cn (row.getD (d - 1) 0))) (sk d one))) (smul (cn (row.getD (d - 1) 0)) (cf first)) := by
      funext k
      show cn ((nxt first row).getD k 0) = (sh (cf row) k + -(cn (row.getD (d - 1) 0)) * sk d one k) + cn (row.getD (d - 1) 0) * cf first k
      by_cases hk : k < d
      · rw [List.getD_eq_getElem?_getD, nxt_at hF.len h.len k hk, Option.getD_some]
        show c (md _ : Nat) = _
        rw [c_md, c_add, c_mul, sk_at, if_pos hk]
        have e3 : c (((if k = 0 then 0 else row.getD (k - 1) 0 : Nat)) : Int) = sh (cf row) k := by
          cases k <;> rfl
        rw [e3]
        have g : ∀ {R : Type} [Fd R] (a b t : R), a + b = (a + -t * 0) + b := fun a b t => by grind
        exact g _ _ _
      · have e1 : (nxt first row).getD k 0 = 0 := by
          rw [List.getD_eq_getElem?_getD, List.getElem?_eq_none (by rw [nxt_len hF.len h.len]; omega)]
          rfl
        have e2 : cf first k = 0 := cf_far (by rw [hF.len]; omega)
        rw [e1, e2, sk_at, if_neg hk]
        by_cases h3 : k = d
        · subst h3
          have e4 : sh (cf row) k = cn (row.getD (k - 1) 0) := by
            cases k with
            | zero => omega
            | succ k => rfl
          rw [e4]
          have g : ∀ {R : Type} [Fd R] (t : R), (0 : R) = (t + -t * 1) + t * 0 := fun t => by grind
          have e5 : (one : Q F) (k - k) = 1 := by rw [Nat.sub_self]; rfl
          rw [e5]
          exact g _
        · have e4 : sh (cf row) k = 0 := by
            cases k with
            | zero => rfl
            | succ k => exact cf_far (by rw [h.len]; omega)
          have e5 : (one : Q F) (k - d) = 0 := if_neg (by omega)
          rw [e4, e5]
          have g : ∀ {R : Type} [Fd R] (t : R), (0 : R) = (0 + -t * 0) + t * 0 := fun t => by grind
          exact g _
    rw [e]
    have h1 := (h.md.sh.add (Md.refl (cf f) (smul (-(cn (row.getD (d - 1) 0))) (sk d one)))).add (hF.md.smul (cn (row.getD (d - 1) 0)))
    refine h1.trans (Md.of ?_)
    funext k
    have g : ∀ {R : Type} [Fd R] (a b t : R), (a + -t * b) + t * b = a := fun a b t => by grind
    exact g _ _ _
/-! ### one step -/
def sumL : List (Nat × List Nat) → List Nat
  | [] => []
  | (n, r) :: z => nadd (r.map fun x => n * x) (sumL z)
def tot (N : Nat) : List (Nat × List Nat) → Nat
  | [] => N
  | (n, r) :: z => tot (N + n * pkv r) z
theorem tot_eq : ∀ (z : List (Nat × List Nat)) (N : Nat), tot N z = N + pkv (sumL z)
  | [], N => rfl
  | (n, r) :: z, N => by
    show tot (N + n * pkv r) z = N + pkv (nadd (r.map fun x => n * x) (sumL z))
    rw [tot_eq z, pk_nadd, pk_map]
    omega
theorem sum_len {d : Nat} : ∀ (z : List (Nat × List Nat)), (∀ x, x ∈ z → x.2.length = d) → (sumL z).length ≤ d
  | [], _ => Nat.zero_le _
  | (n, r) :: z, h => by
    show (nadd (r.map fun x => n * x) (sumL z)).length ≤ d
    have h1 : r.length = d := h (n, r) (by simp)
    have h2 := sum_len z fun x hx => h x (by simp [hx])
    rw [nadd_len, List.length_map]
    omega
theorem sum_lt : ∀ (z : List (Nat × List Nat)), (∀ x, x ∈ z → x.1 < PP ∧ Pm x.2) → ∀ k, (sumL z).getD k 0 ≤ z.length * (PP * PP)
  | [], _, k => Nat.zero_le _
  | (n, r) :: z, h, k => by
    show (nadd (r.map fun x => n * x) (sumL z)).getD k 0 ≤ (z.length + 1) * (PP * PP)
    obtain ⟨h1, h2⟩ := h (n, r) (by simp)
    have h3 := sum_lt z (fun x hx => h x (by simp [hx])) k
    rw [nadd_at, Nat.add_mul]
    have h4 : (r.map fun x => n * x).getD k 0 ≤ 1 * (PP * PP) := by
      rw [List.getD_eq_getElem?_getD, List.getElem?_map]
      cases e : r[k]? with
      | none => exact Nat.zero_le _
      | some m =>
        show n * m ≤ _
        rw [Nat.one_mul]
        exact Nat.mul_le_mul (Nat.le_of_lt h1) (Nat.le_of_lt (h2 m (List.mem_of_getElem? e)))
    omega
theorem sum_md {f first : List Nat} {d : Nat} (h0 : 0 < d) (hF : Row f d d first) : ∀ (his : List Nat) (n : Nat) (row : List Nat), Row f d n row →
    Md (cf f) (cf (sumL (his.zip (rows first his.length row)))) (sk n (cf his))
  | [], n, row, _ => by
    refine Md.of ?_
    funext k
    show (0 : F) = sk n (cf []) k
    rw [sk_at]
    split <;> rfl
  | x :: his, n, row, h => by
    show Md (cf f) (cf (nadd (row.map fun y => x * y) (sumL (his.zip (rows first his.length (nxt first row)))))) _
    rw [cf_nadd, cf_nmap]
    have ih := sum_md h0 hF his (n + 1) (nxt first row) (nxt_row h0 hF h)
    refine ((h.md.smul (cn x)).add ih).trans (Md.of ?_)
    have e : cf (x :: his) = add (smul (cn x) one) (sh (cf his)) := by
      rw [cf_lf, cf_lf]
      exact lf_cons _ _
    rw [e, sk_add, sk_smul]
    congr 1
    have := sk_sk 1 (cf his) n
    rw [show 1 + n = n + 1 by omega] at this
    exact this.symm
/-- the digits of what is above -/
theorem hi_at {V : List Nat} {d t j : Nat} (hV : Lt (2 ^ 150) V) (hj : j < d) : (pkv V + 2 ^ (150 * (2 * d)) * t) / 2 ^ (150 * d) / 2 ^ (150 * j) % 2 ^ 150 = V.getD (d + j) 0 := by
  rw [Nat.div_div_eq_div_mul, ← Nat.pow_add, ← Nat.mul_add, low (by omega), digit V hV]
theorem rows_len (first : List Nat) : ∀ (n : Nat) (row : List Nat), (rows first n row).length = n
  | 0, _ => rfl
  | n + 1, row => by show (rows first n _).length + 1 = n + 1; rw [rows_len first n]
theorem rows_good {f first : List Nat} {d : Nat} (h0 : 0 < d) (hF : Row f d d first) : ∀ (n k : Nat) (row : List Nat), Row f d k row → ∀ r, r ∈ rows first n row → r.length = d ∧ Pm r
  | 0, _, _, _, r, hr => absurd hr (by simp [rows])
  | n + 1, k, row, h, r, hr => by
    rcases List.mem_cons.mp hr with rfl | hr
    · exact ⟨h.len, h.pm⟩
    · exact rows_good h0 hF n (k + 1) _ (nxt_row h0 hF h) r hr
theorem g0a {R : Type} [Fd R] (a : R) : 0 + a = a := by grind
/-- one turn of the half power -/
def stp (first : List Nat) (d N : Nat) : List Nat := un (tot N ((un (N / 2 ^ (150 * d)) d).zip (rows first d first))) d
theorem stp_ok {f first V : List Nat} {d t : Nat} (h0 : 0 < d) (h60 : d ≤ 60) (hF : Row f d d first) (hV2 : Lt (2 ^ 150) V) (hV : Lt (2 ^ 149) (V.take d)) (hl : V.length ≤ 2 * d) :
    Md (cf f) (cf (stp first d (pkv V + 2 ^ (150 * (2 * d)) * t))) (cf V) := by
  have hi : cf (un ((pkv V + 2 ^ (150 * (2 * d)) * t) / 2 ^ (150 * d)) d) = cf (V.drop d) := by
    funext k
    show cn _ = cn _
    by_cases hk : k < d
    · rw [un_at hk, hi_at hV2 hk, cn_mod]
      congr 1
      rw [List.getD_eq_getElem?_getD, List.getD_eq_getElem?_getD, List.getElem?_drop]
    · rw [un_far (by omega), List.getD_eq_getElem?_getD, List.getElem?_eq_none (by rw [List.length_drop]; omega)]
      rfl
  have hun := un_len ((pkv V + 2 ^ (150 * (2 * d)) * t) / 2 ^ (150 * d)) d
  have hup := un_pm ((pkv V + 2 ^ (150 * (2 * d)) * t) / 2 ^ (150 * d)) d
  unfold stp
  generalize un ((pkv V + 2 ^ (150 * (2 * d)) * t) / 2 ^ (150 * d)) d = his at hi hun hup
  rw [tot_eq]
  have hm := sum_md h0 hF his d first hF
  rw [hun] at hm
  have hmem : ∀ x, x ∈ his.zip (rows first d first) → (x.1 < PP ∧ Pm x.2) ∧ x.2.length = d := fun x hx => by
    have h1 := List.of_mem_zip (a := x.1) (b := x.2) hx
    have h2 := rows_good h0 hF d d first hF x.2 h1.2
    exact ⟨⟨hup x.1 h1.1, h2.2⟩, h2.1⟩
  have hz : (his.zip (rows first d first)).length = d := by rw [List.length_zip, hun, rows_len, Nat.min_self]
  have hs1 := sum_len _ fun x hx => (hmem x hx).2
  have hs2 := sum_lt _ fun x hx => (hmem x hx).1
  rw [hz] at hs2
  generalize sumL (his.zip (rows first d first)) = S at hm hs1 hs2
  -- the low part
  have eV : pkv V = pkv (V.take d) + 2 ^ (150 * d) * pkv (V.drop d) := by
    by_cases hd : d ≤ V.length
    · conv => lhs; rw [← List.take_append_drop d V, pk_app, List.length_take, Nat.min_eq_left hd]
    · rw [List.take_of_length_le (by omega), List.drop_eq_nil_of_le (by omega)]
      show _ = _ + _ * 0
      omega
  have eT : pkv V + 2 ^ (150 * (2 * d)) * t + pkv S = pkv (nadd (V.take d) S) + 2 ^ (150 * d) * (pkv (V.drop d) + 2 ^ (150 * d) * t) := by
    have e2 : 2 ^ (150 * (2 * d)) = 2 ^ (150 * d) * 2 ^ (150 * d) := by rw [← Nat.pow_add]; congr 1; omega
    rw [pk_nadd, eV, Nat.mul_add, e2, Nat.mul_assoc]
    omega
  have hW : Lt (2 ^ 150) (nadd (V.take d) S) := Lt.of fun k _ => by
    rw [nadd_at]
    have a1 : (V.take d).getD k 0 < 2 ^ 149 := Lt.at hV (by decide) k
    have a2 := hs2 k
    have a3 : d * (PP * PP) ≤ 60 * (PP * PP) := Nat.mul_le_mul_right _ h60
    have a4 : 60 * (PP * PP) < 2 ^ 149 := by decide
    omega
  refine Md.trans (Md.of ?_) (((Md.refl (cf f) (cf (V.take d))).add hm).trans (Md.of ?_))
  · rw [eT, ← cf_nadd]
    funext k
    show cn _ = cn _
    by_cases hk : k < d
    · rw [un_at hk, low hk, digit _ hW, cn_mod]
    · rw [un_far (by omega), List.getD_eq_getElem?_getD, List.getElem?_eq_none (by rw [nadd_len, List.length_take]; omega)]
      rfl
  · rw [hi]
    funext k
    show cf (V.take d) k + sk d (cf (V.drop d)) k = cf V k
    rw [sk_at]
    by_cases hk : k < d
    · rw [if_pos hk]
      have : cf (V.take d) k = cf V k := by
        show cn _ = cn _
        rw [List.getD_eq_getElem?_getD, List.getElem?_take, if_pos hk, ← List.getD_eq_getElem?_getD]
      rw [this]
      exact Semiring.add_zero _
    · rw [if_neg hk]
      have e1 : cf (V.take d) k = 0 := cf_far (by rw [List.length_take]; omega)
      have e2 : cf (V.drop d) (k - d) = cf V k := by
        show cn _ = cn _
        rw [List.getD_eq_getElem?_getD, List.getElem?_drop, show d + (k - d) = k by omega, ← List.getD_eq_getElem?_getD]
      rw [e1, e2]
      exact g0a _
end Pk
/-! The half power, the shift at which a product is parted, and that the parting ends. -/
namespace Hp
open Po Pl Px Pg Pk Lean.Grind
abbrev F := Fin Pr.P
abbrev PP : Nat := 2305843009213693951
theorem stp_len (first : List Nat) (d N : Nat) : (stp first d N).length = d := un_len _ _
theorem stp_pm (first : List Nat) (d N : Nat) : Pm (stp first d N) := un_pm _ _
theorem un_pk {w : List Nat} {d : Nat} (hp : Pm w) (hl : w.length = d) : un (pkv w) d = w := by
  refine cf_eq (un_pm _ _) hp (by rw [un_len, hl]) ?_
  funext k
  show cn _ = cn _
  have hw : Lt (2 ^ 150) w := fun n hn => Nat.lt_trans (hp n hn) (by decide)
  by_cases hk : k < d
  · rw [un_at hk, digit w hw, cn_mod]
  · rw [un_far (by omega), List.getD_eq_getElem?_getD, List.getElem?_eq_none (by omega)]
    rfl
/-- the power as a number, turn by turn -/
def itn (first : List Nat) (d s : Nat) : Nat → Nat
  | 0 => 1
  | n + 1 => pkv (stp first d (itn first d s n * itn first d s n * (2 ^ 150 + s)))
def wl (first : List Nat) (d s : Nat) : Nat → List Nat
  | 0 => 1 :: List.replicate (d - 1) 0
  | n + 1 => stp first d (itn first d s n * itn first d s n * (2 ^ 150 + s))
theorem pk_zero : ∀ n, pkv (List.replicate n 0) = 0
  | 0 => rfl
  | n + 1 => by show 0 + 2 ^ 150 * pkv (List.replicate n 0) = 0; rw [pk_zero n]
theorem wl_itn (first : List Nat) (d s : Nat) : ∀ n, itn first d s n = pkv (wl first d s n)
  | 0 => by show 1 = 1 + 2 ^ 150 * pkv (List.replicate (d - 1) 0); rw [pk_zero]
  | n + 1 => rfl
theorem wl_len (first : List Nat) (d s : Nat) (h : 0 < d) : ∀ n, (wl first d s n).length = d
  | 0 => by show (List.replicate (d - 1) 0).length + 1 = d; rw [List.length_replicate]; omega
  | n + 1 => stp_len _ _ _
theorem wl_pm (first : List Nat) (d s : Nat) : ∀ n, Pm (wl first d s n)
  | 0 => fun m hm => by
    rcases List.mem_cons.mp hm with rfl | hm
    · decide
    · rw [List.eq_of_mem_replicate hm]; decide
  | n + 1 => stp_pm _ _ _
theorem cf_zeros (l : List Nat) : ∀ n, cf (List.replicate n 0 ++ l) = sk n (cf l)
  | 0 => rfl
  | n + 1 => by
    show cf (0 :: (List.replicate n 0 ++ l)) = sh (sk n (cf l))
    rw [cf_cons0, cf_zeros l n]
theorem cf_z (n : Nat) : cf (List.replicate n 0) = nil := by
  funext k
  show cn _ = 0
  rw [List.getD_eq_getElem?_getD, List.getElem?_replicate]
  split <;> rfl
theorem cf_cons (x : Nat) (l : List Nat) : cf (x :: l) = add (smul (cn x) one) (sh (cf l)) := by
  rw [cf_lf, cf_lf]
  exact lf_cons _ _
theorem g30 {R : Type} [Fd R] (a : R) : 1 * a + 0 = a := by grind
theorem wl0_cf (first : List Nat) (d s : Nat) : cf (wl first d s 0) = one := by
  show cf (1 :: List.replicate (d - 1) 0) = one
  rw [cf_cons, cf_z]
  funext k
  show cn 1 * one k + sh nil k = one k
  have : sh (nil : Q F) k = 0 := by cases k <;> rfl
  rw [this]
  exact g30 _
def hpl (f : List Nat) (s : Nat) : List Nat := un (itn (frst f) (f.length - 1) s 60) (f.length - 1)
theorem hpl_eq {f : List Nat} {s d : Nat} (hl : f.length = d + 1) (h0 : 0 < d) : hpl f s = wl (frst f) d s 60 := by
  unfold hpl
  rw [hl, Nat.add_sub_cancel, wl_itn, un_pk (wl_pm _ _ _ _) (wl_len _ _ _ h0 _)]
def en : Nat → Nat
  | 0 => 0
  | n + 1 => en n + en n + 1
theorem en_eq : ∀ n, en n + 1 = 2 ^ n
  | 0 => rfl
  | n + 1 => by
    show en n + en n + 1 + 1 = 2 ^ (n + 1)
    have := en_eq n
    rw [Nat.pow_succ]
    omega
theorem en60 : en 60 = hf := by
  have := en_eq 60
  unfold hf
  omega
/-- where the shift is as u - 1 hosts higher: the power of u x -/
theorem alg {f : List Nat} {d u t s : Nat} (hl : f.length = d + 1) (h0 : 0 < d) (h60 : d ≤ 60) (hm : Monic d (cf f)) (hu : u ≤ 3) (hs : 2 ^ 150 + s = u * 2 ^ 150 + 2 ^ (150 * (2 * d)) * t) :
    ∀ n, Md (cf f) (cf (wl (frst f) d s n)) (smul (px (cn u) (en n)) (sk (en n) one))
  | 0 => by
    rw [wl0_cf]
    refine Md.of ?_
    funext k
    show one k = 1 * one k
    have g : ∀ {R : Type} [Fd R] (a : R), a = 1 * a := fun a => by grind
    exact g _
  | n + 1 => by
    have ih := alg hl h0 h60 hm hu hs n
    have hlen := wl_len (frst f) d s h0 n
    have hpm := wl_pm (frst f) d s n
    show Md (cf f) (cf (stp (frst f) d (itn (frst f) d s n * itn (frst f) d s n * (2 ^ 150 + s)))) _
    rw [wl_itn, hs]
    generalize wl (frst f) d s n = w at ih hlen hpm
    have eN : pkv w * pkv w * (u * 2 ^ 150 + 2 ^ (150 * (2 * d)) * t) = pkv (0 :: (nmul w w).map fun x => u * x) + 2 ^ (150 * (2 * d)) * (pkv w * pkv w * t) := by
      show _ = 0 + 2 ^ 150 * pkv ((nmul w w).map fun x => u * x) + _
      rw [pk_map, pk_nmul, Nat.mul_add, Nat.zero_add]
      congr 1
      · rw [Nat.mul_comm u (2 ^ 150), Nat.mul_left_comm]
        congr 1
        rw [Nat.mul_comm]
      · rw [Nat.mul_left_comm]
    rw [eN]
    have hb : ∀ k, (nmul w w).getD k 0 ≤ 60 * (PP * PP) := fun k => by
      have h1 := nmul_lt w w hpm hpm k
      rw [hlen] at h1
      exact Nat.le_trans h1 (Nat.mul_le_mul_right _ h60)
    have hV : Lt (2 ^ 149) (0 :: (nmul w w).map fun x => u * x) := Lt.of fun k hk => by
      cases k with
      | zero => exact pow_pos _
      | succ k =>
        show ((nmul w w).map fun x => u * x).getD k 0 < 2 ^ 149
        rw [List.getD_eq_getElem?_getD, List.getElem?_map]
        have h1 := hb k
        rw [List.getD_eq_getElem?_getD] at h1
        cases e : (nmul w w)[k]? with
        | none => exact pow_pos _
        | some m =>
          rw [e] at h1
          show u * m < 2 ^ 149
          have h2 : u * m ≤ 3 * (60 * (PP * PP)) := Nat.mul_le_mul hu h1
          exact Nat.lt_of_le_of_lt h2 (by decide)
    refine (stp_ok h0 h60 (frst_row hl hm) (fun n hn => Nat.lt_trans (hV n hn) (by decide)) (fun n hn => hV n (List.mem_of_mem_take hn)) (by rw [List.length_cons, List.length_map, nmul_len w w (by omega) (by omega)]; omega)).trans ?_
    rw [cf_cons0, cf_nmap, cf_nmul]
    have h1 : Md (cf f) (mul (w.map cn) (cf w)) (smul (px (cn u) (en n)) (sk (en n) (cf w))) := by
      refine (ih.mul (w.map cn)).trans (Md.of ?_)
      rw [mul_sm, mul_sk, mul_one', ← show cf w = lf (w.map cn) from cf_lf w]
    have h2 : Md (cf f) (smul (px (cn u) (en n)) (sk (en n) (cf w))) (smul (px (cn u) (en n)) (sk (en n) (smul (px (cn u) (en n)) (sk (en n) one)))) := (ih.sk (en n)).smul _
    refine (((h1.trans h2).smul (cn u)).sh).trans (Md.of ?_)
    show sh (smul (cn u) (smul (px (cn u) (en n)) (sk (en n) (smul (px (cn u) (en n)) (sk (en n) one))))) = smul (px (cn u) (en n + en n + 1)) (sh (sk (en n + en n) one))
    rw [sk_smul, sk_sk]
    show _ = smul (cn u * px (cn u) (en n + en n)) _
    rw [px_add, ← sh_smul]
    congr 1
    funext k
    show cn u * (px (cn u) (en n) * (px (cn u) (en n) * sk (en n + en n) one k)) = cn u * (px (cn u) (en n) * px (cn u) (en n)) * sk (en n + en n) one k
    have g : ∀ {R : Type} [Fd R] (a b c : R), a * (b * (b * c)) = a * (b * b) * c := fun a b c => by grind
    exact g _ _ _
theorem hpl_alg {f : List Nat} {d u t s : Nat} (hl : f.length = d + 1) (h0 : 0 < d) (h60 : d ≤ 60) (hm : Monic d (cf f)) (hu : u ≤ 3) (hs : 2 ^ 150 + s = u * 2 ^ 150 + 2 ^ (150 * (2 * d)) * t) :
    Md (cf f) (cf (hpl f s)) (smul (px (cn u) hf) (sk hf one)) := by
  rw [hpl_eq hl h0, ← en60]
  exact alg hl h0 h60 hm hu hs 60
/-! ### the shift that parts -/
theorem g31 {R : Type} [Fd R] (a b c d : R) : a * 1 - (0 - b * c) = a * 1 + b * c := by grind
/-- where 0 is no root, x can be divided by -/
theorem inv_sh {fs : List F} {d : Nat} (hl : fs.length = d + 1) (h0 : ev fs 0 ≠ 0) (u : List F) (hu : u.length ≤ d) : ∃ v : List F, v.length ≤ d ∧ Md (lf fs) (sh (lf v)) (lf u) := by
  match fs, hl, h0 with
  | f0 :: ft, hl, h0 =>
    have hf0 : f0 ≠ 0 := fun e => h0 (by
      rw [e]
      have g : ∀ {R : Type} [Fd R] (a : R), (0 : R) + 0 * a = 0 := fun a => by grind
      exact g _)
    obtain ⟨y, hy⟩ := inv_ex f0 hf0
    match u, hu with
    | [], _ =>
      refine ⟨[], by simp, Md.of ?_⟩
      funext k
      cases k <;> rfl
    | u0 :: ut, hu =>
      refine ⟨ladd ut (ft.map fun x => (-(u0 * y)) * x), ?_, ?_⟩
      · have ll : ∀ a b : List F, (ladd a b).length ≤ max a.length b.length := by
          intro a
          induction a with
          | nil => intro b; show b.length ≤ _; omega
          | cons x a ih =>
            intro b
            cases b with
            | nil => show (x :: a).length ≤ _; omega
            | cons z b =>
              show (ladd a b).length + 1 ≤ max (a.length + 1) (b.length + 1)
              have := ih b
              omega
        have := ll ut (ft.map fun x => (-(u0 * y)) * x)
        rw [List.length_map] at this
        rw [List.length_cons] at hl hu
        omega
      · rw [lf_ladd, lf_map, lf_cons, lf_cons]
        have e : sub (sh (add (lf ut) (smul (-(u0 * y)) (lf ft)))) (add (smul u0 one) (sh (lf ut))) = smul (-(u0 * y)) (add (smul f0 one) (sh (lf ft))) := by
          rw [sh_add, sh_smul]
          funext k
          show (sh (lf ut) k + -(u0 * y) * sh (lf ft) k) - (u0 * one k + sh (lf ut) k) = -(u0 * y) * (f0 * one k + sh (lf ft) k)
          have g : ∀ {R : Type} [Fd R] (a b o y f u : R), y * f = 1 → (a + -(u * y) * b) - (u * o + a) = -(u * y) * (f * o + b) := fun a b o y f u h => by
            have h2 : u * y * f = u := by grind
            grind
          exact g _ _ _ _ _ _ hy
        show I _ _
        rw [e]
        exact (self _).smul _
theorem inv_sk {fs : List F} {d : Nat} (hl : fs.length = d + 1) (h0 : ev fs 0 ≠ 0) : ∀ (n : Nat) (u : List F), u.length ≤ d → ∃ v : List F, v.length ≤ d ∧ Md (lf fs) (sk n (lf v)) (lf u)
  | 0, u, hu => ⟨u, hu, .refl _ _⟩
  | n + 1, u, hu => by
    obtain ⟨v1, h1, e1⟩ := inv_sh hl h0 u hu
    obtain ⟨v, h2, e2⟩ := inv_sk hl h0 n v1 h1
    exact ⟨v, h2, e2.sh.trans e1⟩
def lo (a : F) (p : Nat) : Nat := (cn (2 ^ 42) * (a - cn p)).val
def up (a : F) (l : Nat) : Nat := (cn (2 ^ 52) * (a - cn l)).val
theorem gl {R : Type} [Fd R] (a p e f : R) (h : e * f = 1) : (f * (a - p)) * e + p = a := by
  have : (f * (a - p)) * e = (e * f) * (a - p) := by grind
  rw [this, h]
  grind
theorem lo_ok (a : F) (p : Nat) : cn (lo a p * 2 ^ 80 + p) = a := by
  rw [cn_add, cn_mul]
  unfold lo
  rw [cn_val]
  exact gl _ _ _ _ rfl
theorem up_ok (a : F) (l : Nat) : cn (up a l * 2 ^ 70 + l) = a := by
  rw [cn_add, cn_mul]
  unfold up
  rw [cn_val]
  exact gl _ _ _ _ rfl
theorem lo_lt (a : F) (p : Nat) : lo a p < PP := Fin.isLt _
theorem up_lt (a : F) (p : Nat) : up a p < PP := Fin.isLt _
/-- the digits of a number that has some residues, both by itself and shifted by 80 bits -/
def bZ : List F → Nat → List Nat
  | [], _ => []
  | a :: as, p => (up a (lo a p) * 2 ^ 70 + lo a p) :: bZ as (up a (lo a p))
def bY : List F → Nat → List Nat
  | [], _ => []
  | a :: as, p => (lo a p * 2 ^ 80 + p) :: bY as (up a (lo a p))
def bU : List F → Nat → Nat
  | [], p => p
  | a :: as, p => bU as (up a (lo a p))
theorem b_eq : ∀ (as : List F) (p : Nat), 2 ^ 80 * pkv (bZ as p) + p = pkv (bY as p) + 2 ^ (150 * as.length) * bU as p
  | [], p => by show 2 ^ 80 * 0 + p = 0 + 2 ^ 0 * p; omega
  | a :: as, p => by
    have ih := b_eq as (up a (lo a p))
    show 2 ^ 80 * (up a (lo a p) * 2 ^ 70 + lo a p + 2 ^ 150 * pkv (bZ as (up a (lo a p)))) + p = lo a p * 2 ^ 80 + p + 2 ^ 150 * pkv (bY as (up a (lo a p))) + 2 ^ (150 * (as.length + 1)) * bU as (up a (lo a p))
    rw [show 150 * (as.length + 1) = 150 + 150 * as.length by omega, Nat.pow_add, Nat.mul_assoc (2 ^ 150)]
    omega
theorem bZ_len : ∀ (as : List F) (p : Nat), (bZ as p).length = as.length
  | [], _ => rfl
  | a :: as, p => by show (bZ as _).length + 1 = as.length + 1; rw [bZ_len as]
theorem bY_len : ∀ (as : List F) (p : Nat), (bY as p).length = as.length
  | [], _ => rfl
  | a :: as, p => by show (bY as _).length + 1 = as.length + 1; rw [bY_len as]
theorem bZ_lt : ∀ (as : List F) (p : Nat), Lt (2 ^ 149) (bZ as p)
  | [], _, n, h => absurd h (by simp [bZ])
  | a :: as, p, n, h => by
    rcases List.mem_cons.mp h with rfl | h
    · have h1 : lo a p < 2305843009213693951 := lo_lt a p
      have h2 : up a (lo a p) < 2305843009213693951 := up_lt a (lo a p)
      omega
    · exact bZ_lt as _ n h
theorem bY_lt : ∀ (as : List F) (p : Nat), p < PP → Lt (2 ^ 149) (bY as p)
  | [], _, _, n, h => absurd h (by simp [bY])
  | a :: as, p, hp, n, h => by
    rcases List.mem_cons.mp h with rfl | h
    · have h1 : lo a p < 2305843009213693951 := lo_lt a p
      have h2 : p < 2305843009213693951 := hp
      omega
    · exact bY_lt as _ (up_lt _ _) n h
theorem bU_lt : ∀ (as : List F) (p : Nat), p < PP → bU as p < PP
  | [], _, h => h
  | a :: as, p, _ => bU_lt as _ (up_lt _ _)
theorem bZ_map : ∀ (as : List F) (p : Nat), (bZ as p).map cn = as
  | [], _ => rfl
  | a :: as, p => by
    show cn (up a (lo a p) * 2 ^ 70 + lo a p) :: (bZ as _).map cn = a :: as
    rw [up_ok, bZ_map as]
theorem bY_map : ∀ (as : List F) (p : Nat), (bY as p).map cn = as
  | [], _ => rfl
  | a :: as, p => by
    show cn (lo a p * 2 ^ 80 + p) :: (bY as _).map cn = a :: as
    rw [lo_ok, bY_map as]
/-- the top digit -/
theorem top_ex (b : F) (K : Nat) (hK : K < 2 ^ 150) : ∃ l u : Nat, l < 2 ^ 70 ∧ u < PP ∧ cn (u * 2 ^ 70 + l) = b ∧ cn ((2 ^ 80 * l + K) % 2 ^ 150) = b := by
  have h1 : lo b (K % 2 ^ 80) < 2305843009213693951 := lo_lt b (K % 2 ^ 80)
  have h2 := lo_ok b (K % 2 ^ 80)
  generalize lo b (K % 2 ^ 80) = la at h1 h2
  refine ⟨(la + 2 ^ 70 - K / 2 ^ 80) % 2 ^ 70, up b ((la + 2 ^ 70 - K / 2 ^ 80) % 2 ^ 70), Nat.mod_lt _ (by decide), up_lt _ _, up_ok _ _, ?_⟩
  rw [← h2]
  congr 1
  have hk := Nat.div_add_mod K (2 ^ 80)
  have hk0 := Nat.mod_lt K (show 0 < 2 ^ 80 by decide)
  have hk1 : K / 2 ^ 80 < 2 ^ 70 := Nat.div_lt_of_lt_mul (by omega)
  generalize K / 2 ^ 80 = k1 at hk hk1
  generalize K % 2 ^ 80 = k0 at hk hk0
  subst hk
  have : (la + 2 ^ 70 - k1) % 2 ^ 70 = if k1 ≤ la then la - k1 else la + 2 ^ 70 - k1 := by
    split <;> omega
  rw [this]
  split <;> omega
theorem cf_map {l : List Nat} {v : List F} (h : l.map cn = v) : cf l = lf v := by rw [cf_lf, ← h]; rfl
/-- modulo f, lists shorter than f are alike only if they are one -/
theorem uniq {f a b : List Nat} {d : Nat} (hm : Monic d (cf f)) (ha : Pm a) (hb : Pm b) (la : a.length = d) (lb : b.length = d) (h : Md (cf f) (cf a) (cf b)) : a = b := by
  refine cf_eq ha hb (la.trans lb.symm) ?_
  have h0 := less hm h fun k hk => by
    show cf a k - cf b k = 0
    rw [cf_far (by omega), cf_far (by omega)]
    rfl
  funext k
  have g : ∀ {R : Type} [Fd R] (x y : R), x - y = 0 → x = y := fun x y h => by grind
  exact g _ _ (h0 k)
theorem pad {v : List F} {d : Nat} (h : v.length ≤ d) : ∃ w : List F, w.length = d ∧ lf w = lf v := by
  refine ⟨v ++ List.replicate (d - v.length) 0, by rw [List.length_append, List.length_replicate]; omega, ?_⟩
  funext k
  show (v ++ List.replicate (d - v.length) 0).getD k 0 = v.getD k 0
  rw [List.getD_eq_getElem?_getD, List.getD_eq_getElem?_getD]
  by_cases hk : k < v.length
  · rw [List.getElem?_append_left hk]
  · rw [List.getElem?_append_right (by omega), List.getElem?_eq_none (show v.length ≤ k by omega), List.getElem?_replicate]
    split <;> rfl
/-- the list 2^40, 0, .., e -/
def hh (d e : Nat) : List Nat := 2 ^ 40 :: (List.replicate (d - 2) 0 ++ [e])
theorem hh_len {d e : Nat} (h : 2 ≤ d) : (hh d e).length = d := by
  unfold hh
  rw [List.length_cons, List.length_append, List.length_replicate]
  show d - 2 + 1 + 1 = d
  omega
theorem hh_pm {d e : Nat} (h : e < PP) : Pm (hh d e) := fun n hn => by
  unfold hh at hn
  rcases List.mem_cons.mp hn with rfl | hn
  · decide
  · rcases List.mem_append.mp hn with hn | hn
    · rw [List.eq_of_mem_replicate hn]; decide
    · rw [List.mem_singleton.mp hn]; exact h
theorem hh_pk {d e : Nat} (h : 2 ≤ d) : pkv (hh d e) = 2 ^ 40 + 2 ^ (150 * (d - 1)) * e := by
  show 2 ^ 40 + 2 ^ 150 * pkv (List.replicate (d - 2) 0 ++ [e]) = _
  rw [pk_app, pk_zero, List.length_replicate]
  show 2 ^ 40 + 2 ^ 150 * (0 + 2 ^ (150 * (d - 2)) * (e + 2 ^ 150 * 0)) = _
  rw [Nat.zero_add, Nat.mul_zero, Nat.add_zero, ← Nat.mul_assoc, ← Nat.pow_add, show 150 + 150 * (d - 2) = 150 * (d - 1) by omega]
theorem hh_ev {d e : Nat} (h : 2 ≤ d) (a : F) : ev ((hh d e).map cn) a = cn (2 ^ 40) + px a (d - 1) * cn e := by
  have e1 : (hh d e).map cn = cn (2 ^ 40) :: zs (d - 2) [cn e] := by
    unfold hh zs
    rw [List.map_cons, List.map_append, List.map_replicate]
    rfl
  rw [e1]
  show cn (2 ^ 40) + a * ev (zs (d - 2) [cn e]) a = _
  rw [ev_zs, show d - 1 = d - 2 + 1 by omega]
  show cn (2 ^ 40) + a * (px a (d - 2) * (cn e + a * 0)) = cn (2 ^ 40) + a * px a (d - 2) * cn e
  have g : ∀ {R : Type} [Fd R] (q a p e : R), q + a * (p * (e + a * 0)) = q + a * p * e := fun q a p e => by grind
  exact g _ _ _ _
theorem arith (b g q e z0 R Zp Yp U u l K Q Q2 yt t : Int)
 (hq : q = b*2^150) (hb : b*b = q*g) (h1 : 2^80*Zp = Yp + b*U) (hZp: Zp + b*(u*2^70+l) = z0 + 2^150*R) (hK : U + 2^41*e*z0 = K + 2^150*Q) (hy : 2^80*l + K = yt + 2^150*Q2) :
 (2^40 + b*e)*(2^40+b*e)*((Zp + b*(u*2^70+l)) + q*t) = Yp + b*yt + q*(2^41*e*R + g*e*e*(Zp + b*(u*2^70+l)) + Q + Q2 + u + (2^40 + b*e)*(2^40+b*e)*t) := by
  have a1 : (2^40 + b*e)*(2^40+b*e)*((Zp + b*(u*2^70+l)) + q*t) = 2^80*(Zp + b*(u*2^70+l)) + 2^41*b*e*(Zp + b*(u*2^70+l)) + b*b*(e*e*(Zp + b*(u*2^70+l))) + q*((2^40 + b*e)*(2^40+b*e)*t) := by grind
  rw [a1, hb, hZp]
  have a2 : 2^80*(z0 + 2^150*R) = Yp + b*U + b*(u*2^150) + b*(2^80*l) := by rw [← hZp, ← h1]; grind
  rw [a2]
  have a3 : b*U + b*(2^41*e*z0) = b*(K + 2^150*Q) := by rw [← hK]; grind
  have a4 : b*(2^80*l) + b*K = b*(yt + 2^150*Q2) := by rw [← hy]; grind
  rw [hq]
  grind
theorem pk_one (x : Nat) : pkv [x] = x := by show x + 2 ^ 150 * 0 = x; rw [Nat.mul_zero, Nat.add_zero]
theorem ztl {u l : Nat} (h : u < 2305843009213693951) (h2 : l < 2 ^ 70) : u * 2 ^ 70 + l < 2 ^ 149 := by omega
theorem arithN {b g q e z0 R Zp Yp U u l K Q Q2 yt t : Nat}
    (hq : q = b*2^150) (hb : b*b = q*g) (h1 : 2^80*Zp = Yp + b*U) (hZp: Zp + b*(u*2^70+l) = z0 + 2^150*R) (hK : U + 2^41*e*z0 = K + 2^150*Q) (hy : 2^80*l + K = yt + 2^150*Q2) :
    (2^40 + b*e)*(2^40+b*e)*((Zp + b*(u*2^70+l)) + q*t) = Yp + b*yt + q*(2^41*e*R + g*e*e*(Zp + b*(u*2^70+l)) + Q + Q2 + u + (2^40 + b*e)*(2^40+b*e)*t) := by
  have := arith b g q e z0 R Zp Yp U u l K Q Q2 yt t (by exact_mod_cast hq) (by exact_mod_cast hb) (by exact_mod_cast h1) (by exact_mod_cast hZp) (by exact_mod_cast hK) (by exact_mod_cast hy)
  exact_mod_cast this
theorem pk_head {l : List Nat} (h : 0 < l.length) : ∃ R, pkv l = l.getD 0 0 + 2 ^ 150 * R := by
  match l, h with
  | x :: l, _ => exact ⟨pkv l, rfl⟩
theorem special {f : List Nat} {d e : Nat} (hl : f.length = d + 1) (h2 : 2 ≤ d) (h60 : d ≤ 60) (hm : Monic d (cf f)) (h0 : ev (f.map cn) 0 ≠ 0) (he : e < PP) :
    ∃ Z : Nat, Z < 2 ^ (150 * d) ∧ ∀ s t, 2 ^ 150 + s = 2 ^ (150 * d) * Z + 2 ^ (150 * (2 * d)) * t → hpl f s = hh d e := by
  have hlf : cf f = lf (f.map cn) := cf_lf f
  obtain ⟨v0, hv0, ev0⟩ := inv_sk (fs := f.map cn) (d := d) (by rw [List.length_map, hl]) h0 d ((hh d e).map cn) (by rw [List.length_map, hh_len h2]; exact Nat.le_refl d)
  obtain ⟨v, hv, evv⟩ := pad hv0
  rw [← evv, ← hlf, ← show cf (hh d e) = lf ((hh d e).map cn) from cf_lf _] at ev0
  have hne : v ≠ [] := fun e => by rw [e] at hv; simp at hv; omega
  have hsplit := List.dropLast_concat_getLast hne
  have has : v.dropLast.length = d - 1 := by rw [List.length_dropLast, hv]
  generalize v.dropLast = as at hsplit has
  generalize v.getLast hne = b at hsplit
  have bZl := bZ_len as 0
  have bYl := bY_len as 0
  have bZb := bZ_lt as 0
  have bYb := bY_lt as 0 (by decide)
  have bZm := bZ_map as 0
  have bYm := bY_map as 0
  have beq := b_eq as 0
  generalize bZ as 0 = Zs at bZl bZb bZm beq
  generalize bY as 0 = Ys at bYl bYb bYm beq
  generalize bU as 0 = U at beq
  have hKlt : (U + 2 ^ 41 * e * Zs.getD 0 0) % 2 ^ 150 < 2 ^ 150 := Nat.mod_lt _ (by decide)
  have hKd := Nat.div_add_mod (U + 2 ^ 41 * e * Zs.getD 0 0) (2 ^ 150)
  generalize (U + 2 ^ 41 * e * Zs.getD 0 0) % 2 ^ 150 = K at hKlt hKd
  generalize (U + 2 ^ 41 * e * Zs.getD 0 0) / 2 ^ 150 = Q at hKd
  obtain ⟨l, u, hl1, hu1, eZ, eY⟩ := top_ex b K hKlt
  have hYd := Nat.div_add_mod (2 ^ 80 * l + K) (2 ^ 150)
  have hYl : (2 ^ 80 * l + K) % 2 ^ 150 < 2 ^ 150 := Nat.mod_lt _ (by decide)
  generalize (2 ^ 80 * l + K) % 2 ^ 150 = yt at eY hYd hYl
  generalize (2 ^ 80 * l + K) / 2 ^ 150 = Q2 at hYd
  have hzt : u * 2 ^ 70 + l < 2 ^ 149 := ztl hu1 hl1
  have pZ : pkv (Zs ++ [u * 2 ^ 70 + l]) = pkv Zs + 2 ^ (150 * (d - 1)) * (u * 2 ^ 70 + l) := by
    rw [pk_app, bZl, has, pk_one]
  have pY : pkv (Ys ++ [yt]) = pkv Ys + 2 ^ (150 * (d - 1)) * yt := by
    rw [pk_app, bYl, has, pk_one]
  have mZ : (Zs ++ [u * 2 ^ 70 + l]).map cn = v := by rw [List.map_append, bZm, ← hsplit]; show as ++ [cn (u * 2 ^ 70 + l)] = _; rw [eZ]
  have mY : (Ys ++ [yt]).map cn = v := by rw [List.map_append, bYm, ← hsplit]; show as ++ [cn yt] = _; rw [eY]
  have ltZ : Lt (2 ^ 150) (Zs ++ [u * 2 ^ 70 + l]) := fun n hn => by
    rcases List.mem_append.mp hn with hn | hn
    · exact Nat.lt_trans (bZb n hn) (by decide)
    · rw [List.mem_singleton.mp hn]; exact Nat.lt_trans hzt (by decide)
  have ltY : Lt (2 ^ 150) (Ys ++ [yt]) := fun n hn => by
    rcases List.mem_append.mp hn with hn | hn
    · exact Nat.lt_trans (bYb n hn) (by decide)
    · rw [List.mem_singleton.mp hn]; exact hYl
  have lZ : (Zs ++ [u * 2 ^ 70 + l]).length = d := by rw [List.length_append, bZl, has]; show d - 1 + 1 = d; omega
  have lY : (Ys ++ [yt]).length = d := by rw [List.length_append, bYl, has]; show d - 1 + 1 = d; omega
  have hzl := pk_lt ltZ
  rw [lZ] at hzl
  refine ⟨pkv (Zs ++ [u * 2 ^ 70 + l]), hzl, fun s t hs => ?_⟩
  -- one turn gives h, where the number above is that of some digits
  have turn : ∀ (D : List Nat) (X : Nat), Lt (2 ^ 150) D → D.length = d → D.map cn = v → stp (frst f) d (2 ^ (150 * d) * pkv D + 2 ^ (150 * (2 * d)) * X) = hh d e := by
    intro D X hD hDl hDm
    have eN : 2 ^ (150 * d) * pkv D = pkv (List.replicate d 0 ++ D) := by
      rw [pk_app, pk_zero, List.length_replicate, Nat.zero_add]
    rw [eN]
    refine uniq hm (stp_pm _ _ _) (hh_pm he) (stp_len _ _ _) (hh_len h2) ?_
    have ht : (List.replicate d 0 ++ D).take d = List.replicate d 0 := by
      rw [List.take_append_of_le_length (by rw [List.length_replicate]; exact Nat.le_refl d), List.take_of_length_le (by rw [List.length_replicate]; exact Nat.le_refl d)]
    have h1 := stp_ok (f := f) (first := frst f) (V := List.replicate d 0 ++ D) (d := d) (t := X) (by omega) h60 (frst_row hl hm)
      (fun n hn => by
        rcases List.mem_append.mp hn with hn | hn
        · rw [List.eq_of_mem_replicate hn]; exact pow_pos _
        · exact hD n hn)
      (fun n hn => by
        rw [ht] at hn
        rw [List.eq_of_mem_replicate hn]; exact pow_pos _)
      (by rw [List.length_append, List.length_replicate, hDl]; omega)
    refine h1.trans ?_
    rw [cf_zeros, cf_map hDm]
    exact ev0
  have all : ∀ n, wl (frst f) d s (n + 1) = hh d e := by
    intro n
    induction n with
    | zero =>
      show stp (frst f) d (1 * 1 * (2 ^ 150 + s)) = _
      rw [show 1 * 1 * (2 ^ 150 + s) = 2 ^ 150 + s from Nat.one_mul _, hs]
      exact turn _ t ltZ lZ mZ
    | succ n ih =>
      show stp (frst f) d (itn (frst f) d s (n + 1) * itn (frst f) d s (n + 1) * (2 ^ 150 + s)) = _
      rw [wl_itn, ih, hh_pk h2, hs]
      obtain ⟨R, hR⟩ := pk_head (l := Zs ++ [u * 2 ^ 70 + l]) (by omega)
      have hz0 : (Zs ++ [u * 2 ^ 70 + l]).getD 0 0 = Zs.getD 0 0 := by
        rw [List.getD_eq_getElem?_getD, List.getD_eq_getElem?_getD, List.getElem?_append_left (by omega)]
      rw [hz0] at hR
      have hbq : 2 ^ (150 * d) = 2 ^ (150 * (d - 1)) * 2 ^ 150 := by rw [← Nat.pow_add]; congr 1; omega
      have hbb : 2 ^ (150 * (d - 1)) * 2 ^ (150 * (d - 1)) = 2 ^ (150 * d) * 2 ^ (150 * (d - 2)) := by rw [← Nat.pow_add, ← Nat.pow_add]; congr 1; omega
      have h2d : 2 ^ (150 * (2 * d)) = 2 ^ (150 * d) * 2 ^ (150 * d) := by rw [← Nat.pow_add]; congr 1; omega
      have hb1 : 2 ^ 80 * pkv Zs = pkv Ys + 2 ^ (150 * (d - 1)) * U := by rw [← has]; rw [← beq]; omega
      have e1 := arithN (b := 2 ^ (150 * (d - 1))) (g := 2 ^ (150 * (d - 2))) (q := 2 ^ (150 * d)) (e := e) (z0 := Zs.getD 0 0) (R := R) (Zp := pkv Zs) (Yp := pkv Ys) (U := U) (u := u) (l := l) (K := K) (Q := Q) (Q2 := Q2) (yt := yt) (t := t)
        hbq hbb hb1 (by rw [← pZ]; exact hR) (by omega) (by omega)
      rw [← pZ, ← pY] at e1
      have e2 : (2 ^ 40 + 2 ^ (150 * (d - 1)) * e) * (2 ^ 40 + 2 ^ (150 * (d - 1)) * e) * (2 ^ (150 * d) * pkv (Zs ++ [u * 2 ^ 70 + l]) + 2 ^ (150 * (2 * d)) * t)
          = 2 ^ (150 * d) * ((2 ^ 40 + 2 ^ (150 * (d - 1)) * e) * (2 ^ 40 + 2 ^ (150 * (d - 1)) * e) * (pkv (Zs ++ [u * 2 ^ 70 + l]) + 2 ^ (150 * d) * t)) := by
        rw [h2d, Nat.mul_assoc (2 ^ (150 * d)) (2 ^ (150 * d)) t, ← Nat.mul_add, Nat.mul_left_comm]
      rw [e2, e1, Nat.mul_add, ← Nat.mul_assoc (2 ^ (150 * d)) (2 ^ (150 * d)), ← h2d]
      exact turn _ _ ltY lY mY
  rw [hpl_eq hl (by omega)]
  exact all 59
def Kk : Nat := 2 ^ 18000
theorem kk_ge {d : Nat} (h : d ≤ 60) : 2 ^ (150 * (2 * d)) ≤ Kk := Nat.pow_le_pow_right (by decide) (by omega)
theorem bd1 {W q r s0 v B : Nat} (h1 : W * q + r = s0) (h2 : r < W) (hB : 2 * B ≤ W) (hv : v ≤ 2 * B) : s0 < v + W * (q + 1) ∧ v + W * (q + 1) ≤ s0 + 4 * W := by
  rw [Nat.mul_add]
  omega
theorem bd2 {W q r s0 v B : Nat} (h1 : W * q + r = s0) (h2 : r < W) (hB : 2 * B ≤ W) (hv : v ≤ W) : s0 < v + W * (q + 2) - B ∧ v + W * (q + 2) - B ≤ s0 + 4 * W ∧ B + (v + W * (q + 2) - B) = v + W * (q + 2) := by
  rw [Nat.mul_add]
  omega
theorem g40 {R : Type} [Fd R] (x y : R) : x * (0 * y) ≠ 1 := fun e => Fd.ne (F := R) (by grind)
theorem g41 {R : Type} [Fd R] (b : R) : 1 + b * 0 = 1 := by grind
theorem g42 {R : Type} [Fd R] (b : R) : 1 + (-1 + b * 0) = 0 := by grind
theorem g43 {R : Type} [Fd R] (x : R) (h : x + 0 = 0) : x = 0 := by grind
theorem g44 {R : Type} [Fd R] (x : R) (h : 0 * x = 1) : False := Fd.ne (F := R) (by grind)
theorem g45 {R : Type} [Fd R] (a : R) : 1 * a = a := by grind
/-- some roots of a list are told apart from others by the half power -/
def Parts (M : List F) (h : List Nat) : Prop := (∃ a, a ∈ M ∧ ev (h.map cn) a = 1) ∧ ∃ b, b ∈ M ∧ ev (h.map cn) b ≠ 1
theorem gq {R : Type} [Fd R] (x q y p : R) (h : y * p = 1) : q + p * ((1 - q) * y) = 1 := by
  have : p * ((1 - q) * y) = (1 - q) * (y * p) := by grind
  rw [this, h]
  grind
theorem px_ne {a : F} (h : a ≠ 0) : ∀ n, px a n ≠ 0
  | 0 => Fd.ne
  | n + 1 => fun e => by
    rcases mul_eq_zero (show a * px a n = 0 from e) with e | e
    · exact h e
    · exact px_ne h n e
theorem parts_ex {f : List Nat} {M : List F} {d : Nat} (hn : M.Nodup) (hd : M.length = d) (h2 : 2 ≤ d) (h60 : d ≤ 60) (hl : f.length = d + 1) (hf : cf f = prod M) (s0 : Nat) :
    ∃ s, s0 < s ∧ s ≤ s0 + 4 * Kk ∧ Parts M (hpl f s) := by
  have hm : Monic d (cf f) := by rw [hf, ← hd]; exact prod_monic M
  have hlf : lf (f.map cn) = prod M := (cf_lf f).symm.trans hf
  have hp1 : 2 ^ (150 * (2 * d)) ≤ Kk := kk_ge h60
  have hp2 : 2 * 2 ^ 150 ≤ 2 ^ (150 * (2 * d)) := by
    rw [show 2 * 2 ^ 150 = 2 ^ 151 from rfl]
    exact Nat.pow_le_pow_right (by decide) (by omega)
  have hp0 := pow_pos (150 * (2 * d))
  have hdm := Nat.div_add_mod s0 (2 ^ (150 * (2 * d)))
  have hml := Nat.mod_lt s0 hp0
  by_cases hz : (0 : F) ∈ M
  · -- a root that is 0
    obtain ⟨a, ha, ha0⟩ : ∃ a, a ∈ M ∧ a ≠ 0 := by
      match M, hd, hn with
      | x :: y :: M, _, hn =>
        by_cases hx : x = 0
        · refine ⟨y, by simp, fun hy => ?_⟩
          rw [hx, hy] at hn
          simp at hn
        · exact ⟨x, by simp, hx⟩
      | [x], hd, _ => simp at hd; omega
      | [], hd, _ => simp at hd; omega
    obtain ⟨u, hu0, hu3, huu⟩ : ∃ u : Nat, 1 ≤ u ∧ u ≤ 3 ∧ px (cn u * a) Px.hf = 1 := by
      rcases chi ha0 with e | e
      · refine ⟨1, by decide, by decide, ?_⟩
        rw [show cn 1 * a = a from g45 a]
        exact e
      · exact ⟨3, by decide, by decide, e⟩
    have hs : 2 ^ 150 + ((u - 1) * 2 ^ 150 + 2 ^ (150 * (2 * d)) * (s0 / 2 ^ (150 * (2 * d)) + 1)) = u * 2 ^ 150 + 2 ^ (150 * (2 * d)) * (s0 / 2 ^ (150 * (2 * d)) + 1) := by
      obtain ⟨u', rfl⟩ : ∃ u', u = u' + 1 := ⟨u - 1, by omega⟩
      rw [Nat.add_sub_cancel, Nat.add_mul, Nat.one_mul, ← Nat.add_assoc, Nat.add_comm (2 ^ 150)]
    have hc := hpl_alg hl (by omega) h60 hm hu3 hs
    have hu2 : (u - 1) * 2 ^ 150 ≤ 2 * 2 ^ 150 := Nat.mul_le_mul_right _ (by omega)
    obtain ⟨b1, b2⟩ := bd1 hdm hml hp2 hu2
    refine ⟨(u - 1) * 2 ^ 150 + 2 ^ (150 * (2 * d)) * (s0 / 2 ^ (150 * (2 * d)) + 1), b1, Nat.le_trans b2 (Nat.add_le_add_left (Nat.mul_le_mul_left 4 hp1) s0), ?_⟩
    · generalize hpl f ((u - 1) * 2 ^ 150 + 2 ^ (150 * (2 * d)) * (s0 / 2 ^ (150 * (2 * d)) + 1)) = h at hc
      rw [cf_lf, cf_lf, ← lf_one, ← lf_zs, ← lf_map] at hc
      have val : ∀ b, b ∈ M → ev (h.map cn) b = px (cn u) Px.hf * (px b Px.hf * ev [1] b) := fun b hb => by
        have e0 := ev_md hc ((ev_prod M _ b hlf).mpr hb)
        rw [ev_map, ev_zs] at e0
        exact e0
      refine ⟨⟨a, ha, ?_⟩, 0, hz, ?_⟩
      · rw [val a ha]
        show px (cn u) Px.hf * (px a Px.hf * (1 + a * 0)) = 1
        rw [g41, Semiring.mul_one, ← px_mul]
        exact huu
      · rw [val 0 hz, px_zero Px.hf (by decide)]
        exact g40 _ _
  · have h0 : ev (f.map cn) 0 ≠ 0 := fun e => hz ((ev_prod M _ 0 hlf).mp e)
    obtain ⟨a, ha⟩ : ∃ a, a ∈ M := by
      match M, hd with
      | x :: M, _ => exact ⟨x, by simp⟩
      | [], hd => simp at hd; omega
    have ha0 : a ≠ 0 := fun e => hz (e ▸ ha)
    obtain ⟨y, hy⟩ := inv_ex (px a (d - 1)) (px_ne ha0 _)
    obtain ⟨Z, hZ, hs⟩ := special (e := ((1 - cn (2 ^ 40)) * y).val) hl h2 h60 hm h0 (Fin.isLt _)
    have hsq : 2 ^ (150 * (2 * d)) = 2 ^ (150 * d) * 2 ^ (150 * d) := by rw [← Nat.pow_add]; congr 1; omega
    have hZ2 : 2 ^ (150 * d) * Z ≤ 2 ^ (150 * (2 * d)) := by rw [hsq]; exact Nat.mul_le_mul_left _ (Nat.le_of_lt hZ)
    have hE := hs (2 ^ (150 * d) * Z + 2 ^ (150 * (2 * d)) * (s0 / 2 ^ (150 * (2 * d)) + 2) - 2 ^ 150) (s0 / 2 ^ (150 * (2 * d)) + 2) (bd2 hdm hml hp2 hZ2).2.2
    obtain ⟨b1, b2, _⟩ := bd2 hdm hml hp2 hZ2
    refine ⟨2 ^ (150 * d) * Z + 2 ^ (150 * (2 * d)) * (s0 / 2 ^ (150 * (2 * d)) + 2) - 2 ^ 150, b1, Nat.le_trans b2 (Nat.add_le_add_left (Nat.mul_le_mul_left 4 hp1) s0), ?_⟩
    · rw [hE]
      have e1 : ∀ b : F, ev ((hh d ((1 - cn (2 ^ 40)) * y).val).map cn) b = cn (2 ^ 40) + px b (d - 1) * ((1 - cn (2 ^ 40)) * y) := fun b => by rw [hh_ev h2, cn_val]
      refine ⟨⟨a, ha, ?_⟩, Classical.byContradiction fun hno => ?_⟩
      · rw [e1]
        exact gq a _ _ _ hy
      · have hall : ∀ b, b ∈ M → ev ((hh d ((1 - cn (2 ^ 40)) * y).val).map cn) b = 1 := fun b hb => Classical.byContradiction fun e => hno ⟨b, hb, e⟩
        have hv : I (Po.One (prod M)) (lf (ladd ((hh d ((1 - cn (2 ^ 40)) * y).val).map cn) [-1])) := vanish M _ hn fun b hb => by
          rw [ev_ladd, hall b hb]
          exact g42 b
        have hpm := prod_monic M
        rw [hd] at hpm
        have hlen : (hh d ((1 - cn (2 ^ 40)) * y).val).length = d := hh_len h2
        have hz2 := less hpm hv (fun k hk => by
          rw [lf_ladd]
          have a1 : lf ((hh d ((1 - cn (2 ^ 40)) * y).val).map cn) k = 0 := lf_far (by rw [List.length_map]; omega)
          have a2 : lf ([-1] : List F) k = 0 := lf_far (by show 1 ≤ k; omega)
          show lf _ k + lf _ k = 0
          rw [a1, a2]
          rfl) (d - 1)
        rw [lf_ladd] at hz2
        have a2 : lf ([-1] : List F) (d - 1) = 0 := lf_far (by show 1 ≤ d - 1; omega)
        have a1 : lf ((hh d ((1 - cn (2 ^ 40)) * y).val).map cn) (d - 1) = (1 - cn (2 ^ 40)) * y := by
          refine (congrFun (cf_lf _) _).symm.trans ?_
          show cn ((hh d ((1 - cn (2 ^ 40)) * y).val).getD (d - 1) 0) = _
          unfold hh
          obtain ⟨d', rfl⟩ : ∃ d', d = d' + 2 := ⟨d - 2, by omega⟩
          show cn ((List.replicate d' 0 ++ [((1 - cn (2 ^ 40)) * y).val]).getD d' 0) = _
          rw [List.getD_eq_getElem?_getD, List.getElem?_append_right (by rw [List.length_replicate]; exact Nat.le_refl _), List.length_replicate, Nat.sub_self]
          exact cn_val _
        have a3 : (1 - cn (2 ^ 40)) * y = 0 := by
          have : lf ((hh d ((1 - cn (2 ^ 40)) * y).val).map cn) (d - 1) + lf ([-1] : List F) (d - 1) = 0 := hz2
          rw [a1, a2] at this
          exact g43 _ this
        rcases mul_eq_zero a3 with e | e
        · have : (1 - cn (2 ^ 40) : F) ≠ 0 := by decide +kernel
          exact this e
        · rw [e] at hy
          exact g44 _ hy
end Hp
/-! Parting a list of roots until all stand alone. -/
namespace Rt
open Po Pl Px Pg Pk Lean.Grind
abbrev F := Fin Pr.P
def prt (t : List Nat) (a : Nat) : Bool := decide (ev (t.map cn) (cn a) = 1)
theorem ev_lf {us vs : List F} (h : lf us = lf vs) (a : F) : ev us a = ev vs a := by
  have h1 := (ev_mod a us).symm
  rw [h] at h1
  have h2 := h1.trans (ev_mod a vs)
  have e : sub (smul (ev us a) one) (smul (ev vs a) one) = smul (ev us a - ev vs a) one := by
    funext k
    have g : ∀ {R : Type} [Fd R] (x y o : R), x * o - y * o = (x - y) * o := fun x y o => by grind
    exact g _ _ _
  have h3 : I (Po.One (L a one)) (smul (ev us a - ev vs a) one) := by rw [← e]; exact h2
  have g : ∀ {R : Type} [Fd R] (x y : R), x - y = 0 → x = y := fun x y h => by grind
  exact g _ _ (const0 h3)
theorem prt_cf {t u : List Nat} (h : cf t = cf u) : prt t = prt u := by
  funext a
  unfold prt
  have e : lf (t.map cn) = lf (u.map cn) := (cf_lf t).symm.trans (h.trans (cf_lf u))
  rw [ev_lf e]
def T (s : Nat) (g : List Nat) (a : Nat) : Bool := prt (Hp.hpl (br g) s) a
def nx1 (s : Nat) (g : List Nat) : List (List Nat) := if 2 ≤ g.length then [g.filter (T s g), g.filter fun a => !T s g a] else []
def sg (g : List Nat) : List Nat := if g.length = 1 then g else []
def nxtP (s : Nat) : List (List Nat) → List (List Nat)
  | [] => []
  | g :: gs => nx1 s g ++ nxtP s gs
def sgs : List (List Nat) → List Nat
  | [] => []
  | g :: gs => sg g ++ sgs gs
inductive Ends : Nat → List (List Nat) → Nat → Prop
  | done (s) : Ends 0 [] s
  | next {m gs s} : gs ≠ [] → Ends m (nxtP (s + 1) gs) (s + 1) → Ends (m + 1) gs s
structure Good (g : List Nat) : Prop where
  nd : g.Nodup
  pm : Pm g
  le : g.length ≤ 60
theorem Good.filter {g : List Nat} (h : Good g) (p : Nat → Bool) : Good (g.filter p) :=
  ⟨h.nd.filter p, fun n hn => h.pm n (List.mem_filter.mp hn).1, Nat.le_trans (List.length_filter_le _ _) h.le⟩
theorem nx1_good {g : List Nat} (h : Good g) (s : Nat) : ∀ x, x ∈ nx1 s g → Good x := fun x hx => by
  unfold nx1 at hx
  split at hx
  · rcases List.mem_cons.mp hx with rfl | hx
    · exact h.filter _
    · rw [List.mem_singleton.mp hx]; exact h.filter _
  · cases hx
theorem nxtP_good (s : Nat) : ∀ gs : List (List Nat), (∀ g, g ∈ gs → Good g) → ∀ x, x ∈ nxtP s gs → Good x
  | [], _, x, hx => by cases hx
  | g :: gs, h, x, hx => by
    rcases List.mem_append.mp hx with hx | hx
    · exact nx1_good (h g (by simp)) s x hx
    · exact nxtP_good s gs (fun y hy => h y (by simp [hy])) x hx
theorem filt_perm (p : Nat → Bool) : ∀ g : List Nat, (g.filter p ++ g.filter fun a => !p a).Perm g
  | [] => .nil
  | a :: g => by
    have ih := filt_perm p g
    by_cases h : p a = true
    · rw [List.filter_cons_of_pos h, List.filter_cons_of_neg (by rw [h]; decide)]
      exact ih.cons a
    · have h' : p a = false := by simpa using h
      rw [List.filter_cons_of_neg h, List.filter_cons_of_pos (by rw [h']; rfl)]
      exact List.perm_middle.trans (ih.cons a)
theorem one_perm (s : Nat) (g : List Nat) : (sg g ++ (nx1 s g).flatten).Perm g := by
  unfold sg nx1
  by_cases h : 2 ≤ g.length
  · rw [if_neg (by omega), if_pos h]
    show (g.filter (T s g) ++ ((g.filter fun a => !T s g a) ++ [])).Perm g
    rw [List.append_nil]
    exact filt_perm _ g
  · rw [if_neg h]
    by_cases h1 : g.length = 1
    · rw [if_pos h1]
      show (g ++ []).Perm g
      rw [List.append_nil]
    · have : g = [] := List.eq_nil_of_length_eq_zero (by omega)
      subst this
      exact .nil
theorem all_perm (s : Nat) : ∀ gs : List (List Nat), (sgs gs ++ (nxtP s gs).flatten).Perm gs.flatten
  | [] => .nil
  | g :: gs => by
    show ((sg g ++ sgs gs) ++ (nx1 s g ++ nxtP s gs).flatten).Perm (g ++ gs.flatten)
    rw [List.flatten_append, List.append_assoc]
    have h1 := one_perm s g
    have h2 := all_perm s gs
    refine List.Perm.trans ?_ (h1.append h2)
    rw [List.append_assoc]
    refine List.Perm.append_left _ ?_
    rw [← List.append_assoc, ← List.append_assoc]
    exact List.Perm.append_right _ List.perm_append_comm
/-- how much is left to part -/
def psi : List (List Nat) → Nat
  | [] => 0
  | g :: gs => (g.length - 1) + psi gs
theorem psi_app : ∀ a b : List (List Nat), psi (a ++ b) = psi a + psi b
  | [], b => by show psi b = 0 + psi b; omega
  | g :: a, b => by show (g.length - 1) + psi (a ++ b) = (g.length - 1) + psi a + psi b; rw [psi_app a b]; omega
theorem psi_nx1 (s : Nat) (g : List Nat) : psi (nx1 s g) ≤ g.length - 1 := by
  unfold nx1
  by_cases h : 2 ≤ g.length
  · rw [if_pos h]
    have := (filt_perm (T s g) g).length_eq
    rw [List.length_append] at this
    show ((g.filter (T s g)).length - 1) + (((g.filter fun a => !T s g a).length - 1) + 0) ≤ _
    omega
  · rw [if_neg h]
    exact Nat.zero_le _
theorem psi_next (s : Nat) : ∀ gs, psi (nxtP s gs) ≤ psi gs
  | [] => Nat.le_refl _
  | g :: gs => by
    show psi (nx1 s g ++ nxtP s gs) ≤ (g.length - 1) + psi gs
    rw [psi_app]
    have := psi_nx1 s g
    have := psi_next s gs
    omega
/-- a list is parted by a shift -/
def Split (s : Nat) (g : List Nat) : Prop := (g.filter (T s g)) ≠ [] ∧ (g.filter fun a => !T s g a) ≠ []
theorem psi_split {s : Nat} {g : List Nat} : ∀ gs, g ∈ gs → 2 ≤ g.length → Split s g → psi (nxtP s gs) < psi gs
  | x :: gs, h, h2, hs => by
    show psi (nx1 s x ++ nxtP s gs) < (x.length - 1) + psi gs
    rw [psi_app]
    rcases List.mem_cons.mp h with rfl | h
    · have h3 := psi_next s gs
      have h4 : psi (nx1 s g) < g.length - 1 := by
        unfold nx1
        rw [if_pos h2]
        have := (filt_perm (T s g) g).length_eq
        rw [List.length_append] at this
        have a1 : 0 < (g.filter (T s g)).length := List.length_pos_iff.mpr hs.1
        have a2 : 0 < (g.filter fun a => !T s g a).length := List.length_pos_iff.mpr hs.2
        show ((g.filter (T s g)).length - 1) + (((g.filter fun a => !T s g a).length - 1) + 0) < _
        omega
      omega
    · have := psi_nx1 s x
      have := psi_split gs h h2 hs
      omega
theorem stays {s : Nat} {g : List Nat} (h2 : 2 ≤ g.length) (hs : ¬ Split s g) : g ∈ nx1 s g := by
  unfold nx1
  rw [if_pos h2]
  have hp := filt_perm (T s g) g
  by_cases h : (g.filter (T s g)) = []
  · have : (g.filter fun a => !T s g a) = g := by
      refine List.filter_eq_self.mpr fun a ha => ?_
      have h1 : ¬ T s g a = true := fun e => by
        have : a ∈ g.filter (T s g) := List.mem_filter.mpr ⟨ha, e⟩
        rw [h] at this
        cases this
      simpa using h1
    rw [this]
    simp
  · have h' : (g.filter fun a => !T s g a) = [] := Classical.byContradiction fun e => hs ⟨h, e⟩
    have : (g.filter (T s g)) = g := by
      refine List.filter_eq_self.mpr fun a ha => ?_
      exact Classical.byContradiction fun e => by
        have : a ∈ g.filter fun a => !T s g a := List.mem_filter.mpr ⟨ha, by simpa using e⟩
        rw [h'] at this
        cases this
    rw [this]
    simp
theorem mem_next {s : Nat} {g : List Nat} : ∀ gs, g ∈ gs → 2 ≤ g.length → ¬ Split s g → g ∈ nxtP s gs
  | x :: gs, h, h2, hs => by
    show g ∈ nx1 s x ++ nxtP s gs
    rcases List.mem_cons.mp h with rfl | h
    · exact List.mem_append_left _ (stays h2 hs)
    · exact List.mem_append_right _ (mem_next gs h h2 hs)
theorem cn_nodup {g : List Nat} (hn : g.Nodup) (hp : Pm g) : (g.map cn).Nodup := by
  induction g with
  | nil => exact List.nodup_nil
  | cons a g ih =>
    rw [List.nodup_cons] at hn
    rw [List.map_cons, List.nodup_cons]
    refine ⟨fun h => ?_, ih hn.2 fun n hm => hp n (by simp [hm])⟩
    obtain ⟨b, hb, e⟩ := List.mem_map.mp h
    have : b = a := cn_inj (hp b (by simp [hb])) (hp a (by simp)) e
    exact hn.1 (this ▸ hb)
theorem target {g : List Nat} (h : Good g) (h2 : 2 ≤ g.length) (s0 : Nat) : ∃ s, s0 < s ∧ s ≤ s0 + 4 * Hp.Kk ∧ Split s g := by
  obtain ⟨s, h1, h3, ⟨a, ha, ea⟩, b, hb, eb⟩ := Hp.parts_ex (f := br g) (M := g.map cn) (d := g.length) (cn_nodup h.nd h.pm) (List.length_map _) h2 h.le (br_len g) (cf_br g) s0
  refine ⟨s, h1, h3, ?_, ?_⟩
  · obtain ⟨x, hx, rfl⟩ := List.mem_map.mp ha
    intro e
    have : x ∈ g.filter (T s g) := List.mem_filter.mpr ⟨hx, decide_eq_true ea⟩
    rw [e] at this
    cases this
  · obtain ⟨x, hx, rfl⟩ := List.mem_map.mp hb
    intro e
    have : x ∈ g.filter fun a => !T s g a := List.mem_filter.mpr ⟨hx, by show (!decide _) = true; rw [decide_eq_false eb]; rfl⟩
    rw [e] at this
    cases this
theorem small_next (s : Nat) : ∀ gs : List (List Nat), (∀ g, g ∈ gs → g.length < 2) → nxtP s gs = []
  | [], _ => rfl
  | g :: gs, h => by
    show nx1 s g ++ nxtP s gs = []
    rw [small_next s gs fun x hx => h x (by simp [hx])]
    unfold nx1
    rw [if_neg (by have := h g (by simp); omega)]
    rfl
theorem ends_in (B : Nat) : ∀ (q : Nat), (∀ gs, (∀ g, g ∈ gs → Good g) → psi gs < q → ∀ s, ∃ m, m ≤ (psi gs) * B + 1 ∧ Ends m gs s) → B = 4 * Hp.Kk →
    ∀ (j : Nat) (gs : List (List Nat)), (∀ g, g ∈ gs → Good g) → psi gs = q → ∀ (s : Nat) (g : List Nat), g ∈ gs → 2 ≤ g.length → Split (s + j + 1) g → ∃ m, m ≤ (q - 1) * B + 1 + (j + 1) ∧ Ends m gs s := by
  intro q ih hB j
  induction j with
  | zero =>
    intro gs hg hq s g hm h2 hs
    have h1 := psi_split gs hm h2 hs
    obtain ⟨m, hm1, hm2⟩ := ih (nxtP (s + 1) gs) (nxtP_good _ gs hg) (by rw [← hq]; exact h1) (s + 1)
    have hle : psi (nxtP (s + 1) gs) ≤ q - 1 := by
      have h1' : psi (nxtP (s + 1) gs) < psi gs := h1
      omega
    refine ⟨m + 1, ?_, .next (fun e => by rw [e] at hm; cases hm) hm2⟩
    have := Nat.mul_le_mul_right B hle
    omega
  | succ j ihj =>
    intro gs hg hq s g hm h2 hs
    have hne : gs ≠ [] := fun e => by rw [e] at hm; cases hm
    by_cases hlt : psi (nxtP (s + 1) gs) < psi gs
    · obtain ⟨m, hm1, hm2⟩ := ih (nxtP (s + 1) gs) (nxtP_good _ gs hg) (by rw [← hq]; exact hlt) (s + 1)
      refine ⟨m + 1, ?_, .next hne hm2⟩
      have := Nat.mul_le_mul_right B (show psi (nxtP (s + 1) gs) ≤ q - 1 by omega)
      omega
    · have heq : psi (nxtP (s + 1) gs) = q := by
        have := psi_next (s + 1) gs
        omega
      have hns : ¬ Split (s + 1) g := fun e => hlt (psi_split gs hm h2 e)
      obtain ⟨m, hm1, hm2⟩ := ihj (nxtP (s + 1) gs) (nxtP_good _ gs hg) heq (s + 1) g (mem_next gs hm h2 hns) h2 (by rw [show s + 1 + j + 1 = s + (j + 1) + 1 by omega]; exact hs)
      exact ⟨m + 1, by omega, .next hne hm2⟩
theorem psi_pos {g : List Nat} : ∀ gs : List (List Nat), g ∈ gs → 2 ≤ g.length → 0 < psi gs
  | x :: gs, h, h2 => by
    show 0 < (x.length - 1) + psi gs
    rcases List.mem_cons.mp h with rfl | h
    · omega
    · have := psi_pos gs h h2
      omega
/-- it ends -/
theorem ends : ∀ (n : Nat) (gs : List (List Nat)), (∀ g, g ∈ gs → Good g) → psi gs < n → ∀ s, ∃ m, m ≤ (psi gs) * (4 * Hp.Kk) + 1 ∧ Ends m gs s := by
  intro n
  induction n with
  | zero => intro gs _ h; exact absurd h (by omega)
  | succ n ih =>
    intro gs hg hn s
    by_cases hb : ∃ g, g ∈ gs ∧ 2 ≤ g.length
    · obtain ⟨g, hm, h2⟩ := hb
      have hp := psi_pos gs hm h2
      obtain ⟨s', h1, h3, hs⟩ := target (hg g hm) h2 s
      obtain ⟨m, e1, e2⟩ := ends_in (4 * Hp.Kk) (psi gs) (fun gs' hg' hlt => ih gs' hg' (by omega)) rfl (s' - s - 1) gs hg rfl s g hm h2 (by rw [show s + (s' - s - 1) + 1 = s' by omega]; exact hs)
      refine ⟨m, ?_, e2⟩
      obtain ⟨q, hq⟩ : ∃ q, psi gs = q + 1 := ⟨psi gs - 1, by omega⟩
      rw [hq] at e1 ⊢
      rw [Nat.add_sub_cancel] at e1
      rw [Nat.add_mul]
      omega
    · have hsm : ∀ g, g ∈ gs → g.length < 2 := fun g hm => Nat.lt_of_not_le fun e => hb ⟨g, hm, e⟩
      by_cases h0 : gs = []
      · subst h0
        exact ⟨0, Nat.zero_le _, .done s⟩
      · refine ⟨1, by omega, .next h0 ?_⟩
        rw [small_next _ gs hsm]
        exact .done _
end Rt
/-! for i, x in enumerate(t), t a tuple -/
namespace EnT
open PySem PySem.Spec PyProof.Rows L2
theorem made (l : Addr) (its : Array Value) :
    Meets (Builtin.«enumerate.__new__» ⟨[.type "enumerate", .ref l], []⟩) (fun _ R s => s.heap.IsTuple l its ∧
      R (.ok (.ret (.ref (s.heap.push { cls := .type "tuple_iterator", data := .fields #[.ref l, .int 0 0] }).objs.size)))
        { s with heap := (s.heap.push { cls := .type "tuple_iterator", data := .fields #[.ref l, .int 0 0] }).push { cls := .type "enumerate", data := .fields #[.none, .bool false, .ref s.heap.objs.size, rawInt 0, .none, .none] } }) :=
  .of_wp fun prog w A R s h => by
    obtain ⟨hp, g, d, tk, os⟩ := s
    obtain ⟨h1, h⟩ := h
    have sb := sub_enumerate
    have it : ∀ {A' : Around} {E : Value → Shared → Prop} {Q : Value → Shared → Prop}, Q (.ref hp.objs.size) ⟨hp.push { cls := .type "tuple_iterator", data := .fields #[.ref l, .int 0 0] }, g, d, tk, os⟩ → wpAny (model prog w) A' (pyIter (.ref l)) Q E ⟨hp, g, d, tk, os⟩ :=
      fun q => (begins_tuple l its).iter prog w _ _ ⟨hp, g, d, tk, os⟩ _ h1 q
    wp_walk using it
    refine wpAny_stack_any fun st => wpAny_pure ?_
    split
    · rename_i c _ _ _ _ _
      cases (c == Value.type "enumerate")
      all_goals
        wp_walk using it
        exact ⟨_, rfl, h⟩
    · wp_walk using it
      exact ⟨_, rfl, h⟩
section
variable {prog : Program} {w : World} {A : Around} {E : Value → Shared → Prop} {s : Shared}
theorem called {l : Addr} {its : Array Value} {Q : Value → Shared → Prop} (hT : s.heap.IsTuple l its)
    (h : ∀ h', IsEnum h' (s.heap.objs.size + 1) s.heap.objs.size 0 .none → h'.IsTupleIter s.heap.objs.size l 0 → h'.objs.size = s.heap.objs.size + 2 →
      (∀ b o, s.heap.get? b = some o → h'.get? b = some o) → Q (.ref (s.heap.objs.size + 1)) { s with heap := h' }) : wpAny (model prog w) A (call (.type "enumerate") [.ref l]) Q E s := by
  refine callType_new F.called_enumerate (by decide) (F.typeCall_enumerate_1 _) (F.newCall_enumerate_1 _) (fun obj => F.args_object_init_2 obj _) F.entry_enumerate_new (made l its) ⟨hT, ?_⟩
  have hz : (s.heap.push { cls := .type "tuple_iterator", data := .fields #[.ref l, .int 0 0] }).objs.size = s.heap.objs.size + 1 := Heap.size_push ..
  show _ ∧ _
  rw [hz]
  have he : IsEnum ((s.heap.push { cls := .type "tuple_iterator", data := .fields #[.ref l, .int 0 0] }).push { cls := .type "enumerate", data := .fields #[.none, .bool false, .ref s.heap.objs.size, rawInt 0, .none, .none] }) (s.heap.objs.size + 1) s.heap.objs.size 0 .none := by
    rw [← hz]
    exact Heap.get?_push_size _ rfl
  exact ⟨⟨_, he, rfl⟩, h _ he ⟨_, Heap.get?_push_of_some _ (Heap.get?_push_size _ rfl), rfl, rfl⟩ (by rw [Heap.size_push, hz]) fun b o x => Heap.get?_push_of_some _ (Heap.get?_push_of_some _ x)⟩
end
/-- the tuple at a, each item with its place in a new pair -/
def ItT (K : PySem.W.Frag) (a : Addr) : It :=
  ⟨fun i H => ∃ (xs : List V) (x : V), SqT K H a xs ∧ xs[i]? = some x, fun i H v H' => ∃ T x, v = .ref T ∧ H T = none ∧ H' = upd H T (.tup [.int (i : Nat), x]) ∧ ∀ xs, SqT K H a xs → xs[i]? = some x, fun i H => ∃ xs : List V, SqT K H a xs ∧ xs.length ≤ i⟩
theorem turn {P : Program} {w : World} {K : PySem.W.Frag} {elts : List Expr} {kk : Nat} {tpos : Pos} (a e it : Addr) (hai : a ≠ it) (hae : a ≠ e) (its : Array Value) :
    Turn P w K (.Tuple elts kk tpos) (ItT K a) [e, it] e (fun i h => (∃ old, IsEnum h e it ((i : Nat) : Int) old) ∧ h.IsTupleIter it a i ∧ e ≠ it) where
  mem := by simp
  obj := fun i h st b hb => by
    obtain ⟨⟨old, he⟩, ⟨o, ho, hc, hd⟩, _⟩ := st
    rcases (show b = e ∨ b = it by simpa using hb) with z | z
    · rw [z]; exact ⟨_, he, fun v q => nomatch q⟩
    · rw [z]; exact ⟨o, ho, fun v q => by rw [hd] at q; cases q⟩
  keep := fun i h h' st k => ⟨⟨st.1.choose, k e (by simp) _ st.1.choose_spec⟩, st.2.1.at fun o q => k it (by simp) o q, st.2.2⟩
  item := by
    intro X hP hw hK hc i pins s σ H E I hf st hg
    subst hP hw hK
    obtain ⟨⟨old, he⟩, hit, hne⟩ := st
    obtain ⟨xs, x, hq, hx⟩ := hg
    obtain ⟨ys, rv, p, hz⟩ := I.tuple hq
    obtain ⟨u, hu, ru⟩ := rv.get hx
    have hel : e < s.heap.objs.size := Heap.lt_size he
    have hil : it < s.heap.objs.size := by obtain ⟨_, q, _⟩ := hit; exact Heap.lt_size q
    have hul : i < ys.toArray.size := by
      have := (List.getElem?_eq_some_iff.mp hu).1
      simpa using this
    refine wpAny_pyNext_enum_itemD (Draws.tuple (A := X.A.in1) (show X.A.in1.handled = none from I.ok.hd hc) it a hai ys.toArray) he ⟨hit, p⟩ hul hne (by simp [hne, Ne.symm hae]) fun v h' tk hv ho hst hT hsz hk => ?_
    obtain rfl : v = u := by
      have hv' : ys.toArray[i]? = some v := hv
      rw [List.getElem?_toArray, hu] at hv'
      exact (Option.some.inj hv').symm
    refine ⟨_, rfl, wpAny_letOwnedTupleGo_enum (s := { s with heap := h', toks := tk + 1 }) ho fun h'' he' sb => ?_⟩
    have hT2 : h''.get? s.heap.objs.size = some { cls := .type "tuple", data := .seq #[.int i tk, v] } := (sb.2 _ (Nat.ne_of_gt hel)).trans hT
    have new : ObjOk X.prog X.w (upd H s.heap.objs.size (.tup [.int (i : Nat), x])) h'' s.heap.objs.size (.tup [.int (i : Nat), x]) :=
      ⟨by show 2 ≤ sizeLine; decide, [.int i tk, v], .cons ⟨_, rfl⟩ (.cons ru .nil), ⟨_, hT2, rfl, _, rfl⟩⟩
    have I1 : Inv X pins σ (upd H s.heap.objs.size (.tup [.int (i : Nat), x])) { s with heap := h'', toks := tk + 1 } :=
      I.turnedNew (ch := [e, it]) (fun b ob hb q => (sb.2 b (fun z => hb (by simp [z]))).trans (hk b ob (fun z => hb (by simp [z])) (fun z => hb (by simp [z])) q)) hf (Nat.le_refl _) new
    refine ⟨.ref s.heap.objs.size, _, I1, rfl, ⟨_, x, rfl, I.hok.fresh (Nat.le_refl _), rfl, fun zs hy => by rw [I.tuple_inj hy hq]; exact hx⟩, ⟨⟨v, ?_⟩, hst.1.at fun o q => (sb.2 it (Ne.symm hne)).trans q, hne⟩, fun b hb => ?_⟩
    · rw [show ((i + 1 : Nat) : Int) = (i : Int) + 1 by omega]
      exact he'
    · have hb' : b < s.heap.objs.size := by
        rcases (show b = e ∨ b = it by simpa using hb) with z | z
        · rw [z]; exact hel
        · rw [z]; exact hil
      rw [upd_ne (Nat.ne_of_lt hb')]
      exact (hf b hb).1
  done := by
    intro X hP hw hK hc i pins s σ H E I hf st hg
    subst hP hw hK
    obtain ⟨⟨old, he⟩, hit, hne⟩ := st
    obtain ⟨xs, hq, hx⟩ := hg
    obtain ⟨ys, rv, p, hz⟩ := I.tuple hq
    obtain ⟨f0, f1, f2, f3, f4, f5⟩ := hf it (by simp)
    have hl := rv.length
    have D : Draws X.prog X.w X.A.in1 it [it, a] i (fun _ _ => False) (fun j h => j = i ∧ h.IsTupleIter it a i ∧ h.IsTuple a ys.toArray) :=
      ⟨fun _ _ st => let ⟨o, ho, _⟩ := st.2.1; ⟨o, ho⟩, fun _ _ _ st hk => ⟨st.1, st.2.1.at fun o q => hk it (by simp) o q, st.2.2.at fun o q => hk a (by simp) o q⟩, fun j s Q E hj st _ => absurd st.1 (Nat.ne_of_lt hj),
        fun s Q E st hE => wpAny_nextOf_tuple_end (show X.A.in1.handled = none from I.ok.hd hc) st.2.1 st.2.2 (by simp; omega) hE⟩
    exact wpAny_pyNext_enum_endD D he ⟨rfl, hit, p⟩ fun h' eb => ⟨rfl, I.turned (t' := s.toks) (fun b o hb q => eb b o hb q) f0 f1 f3 f4 f5⟩
  self := fun A i s Q E st h => let ⟨⟨_, he⟩, _⟩ := st; wpAny_pyIter_enum he h
def iEnT (K : PySem.W.Frag) (ta : TA) : TI := fun σ H R => ta σ H fun vs H1 => ∃ a xs, vs = [.ref a] ∧ SqT K H1 a xs ∧ R (ItT K a) H1
theorem pi_enumT {X : Cx} {e : Expr} {ta : TA} {p pos tpos : Pos} {elts : List Expr} {kk : Nat} (hg : Gl X "enumerate") (hm : X.mg "enumerate" = none) (ha : PA X [e] ta) (hs : starEach [e] X.env = [(false, eval e X.env)] := by rfl) :
    PI X (.Tuple elts kk tpos) (.Call (.Name "enumerate" p) [e] [] pos) (iEnT X.K ta) := by
  refine ⟨fun pins s σ H R I h => ?_⟩
  refine Call_ (ld_blt I hg hm boot_enumerate (PyProof.Rows.callWith_type1 (thn (ha.run pos pins s σ H _ I h) fun us s1 ⟨vs, H1, I1, r1, q1⟩ => ?_) hs rfl))
  obtain ⟨a, xs, ex, hq, q⟩ := q1
  subst ex
  cases r1 with
  | cons r rr =>
    cases rr
    cases r
    obtain ⟨its, rv, p', hz⟩ := I1.tuple hq
    obtain ⟨ob, hob, _⟩ := id p'
    have hal : a < s1.heap.objs.size := Heap.lt_size hob
    refine called (its := its.toArray) p' fun h' he hit hsz hk => wpAny_pyIter_enum he ?_
    have I2 : Inv X pins σ H1 { s1 with heap := h' } := I1.kept (t' := s1.toks) hk
    refine ⟨s1.heap.objs.size + 1, [s1.heap.objs.size + 1, s1.heap.objs.size], _, _, H1, rfl, I2, turn a (s1.heap.objs.size + 1) s1.heap.objs.size (Nat.ne_of_lt hal) (Nat.ne_of_lt (Nat.lt_succ_of_lt hal)) its.toArray, ⟨⟨.none, he⟩, hit, Nat.succ_ne_self _⟩, fun b hb => ?_, q⟩
    have hle : s1.heap.objs.size ≤ b := by
      rcases (show b = s1.heap.objs.size + 1 ∨ b = s1.heap.objs.size by simpa using hb) with z | z
      · rw [z]; exact Nat.le_add_right _ _
      · rw [z]; exact Nat.le_refl _
    exact I1.fpOk hle (I1.hok.fresh hle)
/-- a loop over it -/
theorem for_enT {K : PySem.W.Frag} {a : Addr} {xs : List V} {g : TG} {tb : TS} {D : Ends} {σ : L2.St} {H : Hp} (Pv : Nat → L2.St → Hp → Prop) (h0 : Pv 0 σ H) (hq : ∀ i σ H, Pv i σ H → SqT K H a xs)
    (hs : ∀ (i : Nat) (x : V) (T : Addr) (σ : L2.St) (H : Hp), xs[i]? = some x → Pv i σ H → H T = none → g (.ref T) σ (upd H T (.tup [.int (i : Nat), x])) fun σ2 H2 => tb { D with nx := Pv (i + 1), ct := Pv (i + 1), bk := D.nx } σ2 H2) (hd : ∀ σ H, Pv xs.length σ H → D.nx σ H) :
    ∃ W : Nat → Nat → L2.St → Hp → Prop, (∃ m, W 0 m σ H) ∧ ∀ i m σ H, W i m σ H →
      ((ItT K a).stop i H ∧ D.nx σ H) ∨ ((ItT K a).go i H ∧ ∃ N : L2.St → Hp → Prop, (∀ σ' H', N σ' H' → ∃ m', m' < m ∧ W (i + 1) m' σ' H') ∧ ∀ v H', (ItT K a).yld i H v H' → g v σ H' fun σ2 H2 => tb { D with nx := N, ct := N, bk := D.nx } σ2 H2) := by
  refine ⟨fun i m σ H => m = xs.length - i ∧ i ≤ xs.length ∧ Pv i σ H, ⟨xs.length, rfl, Nat.zero_le _, h0⟩, ?_⟩
  rintro i m σ H ⟨rfl, hi, p⟩
  have hp := hq i σ H p
  by_cases hlt : i < xs.length
  · refine .inr ⟨⟨xs, xs[i], hp, by simp [hlt]⟩, Pv (i + 1), fun σ' H' p' => ⟨xs.length - (i + 1), by omega, rfl, hlt, p'⟩, fun v H' y => ?_⟩
    obtain ⟨T, x, rfl, hT, rfl, hx⟩ := y
    exact hs i x T σ H (hx xs hp) p hT
  · obtain rfl : i = xs.length := by omega
    exact .inl ⟨⟨xs, hp, Nat.le_refl _⟩, hd σ H p⟩
end EnT
/-! set(xs), xs a list of ints: a set of its own -/
namespace SLs
open PySem PySem.Spec PyProof.Rows L2
/-- a set without members, as it is made -/
abbrev eS (w : World) : Obj := { cls := .type "set", dict := none, data := .set #[] 0 (.fresh 0 0 (!w.params.followText "set-order")) }
section
variable {P : Program} {w : World} {A : Around} {E : Value → Shared → Prop} {s : Shared}
theorem made {l : Addr} {its : Array Value} (ks : List Int) {Q : Value → Shared → Prop} (hA : A.handled = none) (L : s.heap.IsList l its) (I : IntsAre its.toList ks) (hk : ks.length + 1 < scanBound)
    (q : ∀ (h2 : Heap) (u m : Nat), SetR w h2 s.heap.objs.size (fun j => decide (j ∈ ks)) m → m ≤ ks.length → (∀ b o, s.heap.get? b = some o → h2.get? b = some o) → Q (.ref s.heap.objs.size) { s with heap := h2, toks := u }) :
    wpAny (model P w) A (call (.type "set") [.ref l]) Q E s := by
  have zs : its.size = ks.length := (Array.length_toList (xs := its)).symm.trans (IntsAre.length I)
  obtain ⟨c, tl, m1⟩ := F.called_set.mro
  have m2 := F.called_set.made; have m3 := F.called_set.sub
  refine wpAny_call (codeAny_of_tree ?_); show wpAny _ _ (callAny (.type "set") _) _ _ _
  refine wpAny_pure ⟨Code.quiet_builtin _ (by decide +kernel), codeAny_builtin F.entry_type_call ?_⟩; rw [Around.under_plain (weight_type_call_type "set" [.ref l] []) rfl]
  have m4 := F.called_set.notType; have m5 := F.called_set.canCreate; have m6 := F.typeCall_set_1 (.ref l)
  repeat (any_goals (first | assumption | wp_step))
  refine codeAny_mono (code_set_led1 (.ref l) (E := E) (Q₁ := fun o s1 => o = .ref s.heap.objs.size ∧ s1 = { s with heap := s.heap.push (eS w) }) ⟨rfl, rfl⟩) fun r s1 hr => ?_
  cases r with
  | error e => exact hr
  | ok fl =>
    cases fl with
    | ret o =>
      obtain ⟨rfl, rfl⟩ := hr
      have g1 : (s.heap.push (eS w)).get? s.heap.objs.size = some (eS w) := Heap.get?_push_size _ rfl
      have g2 : Shared.TypeIs { s with heap := s.heap.push (eS w) } (.ref s.heap.objs.size) "set" := ⟨_, g1, rfl⟩
      have m7 := F.called_set.init.lookup; have m8 := F.called_set.init.bind (.ref s.heap.objs.size)
      repeat (any_goals (first | assumption | wp_step))
      refine codeAny_mono (codeAny_call_builtin (R := wants (fun r s2 => r = .none ∧ ∃ h2 u m, s2 = { s with heap := h2, toks := u } ∧ SetR w h2 s.heap.objs.size (fun j => decide (j ∈ ks)) m ∧ m ≤ ks.length ∧ (∀ b o, s.heap.get? b = some o → h2.get? b = some o)) E) F.called_set.init.plain F.entry_set_init (check_set_init_1 g2 ?_)) fun r2 s2 hr2 => ?_
      · obtain ⟨ol, e0, e1, n0, e2⟩ := L
        obtain ⟨oc, od, ot, os⟩ := ol
        simp only at e1 e2; subst e1; subst e2
        have g3 : (s.heap.push (eS w)).get? l = some { cls := .type "list", dict := od, data := .seq its n0, slots := os } := Heap.get?_push_of_some _ e0
        have f1 := F.sub_list_set; have f2 := F.sub_list_frozenset
        have f3 : (Value.type "list" == Value.type "dict") = false := by decide
        have L1 : (s.heap.push (eS w)).IsList l its := ⟨_, g3, rfl, n0, rfl⟩
        unfold Builtin.«set.__init__» noKeywords Builtin.Frozenset.updateFrom; generalize hPI : pyIter = PI
        wp_walk
        subst hPI
        refine wpAny_pyIter_list L1 ?_; refine wpAny_bind (wpAny_runValue ?_)
        have lt0 : l < s.heap.objs.size := Heap.lt_size e0
        have hA3 : A.in1.in1.in1.handled = none := by simp [hA]
        have n1 : l ≠ (s.heap.push (eS w)).objs.size := by rw [Heap.size_push]; exact Nat.ne_of_lt (Nat.lt_succ_of_lt lt0)
        have n2 : s.heap.objs.size ∉ [(s.heap.push (eS w)).objs.size, l] := fun z => by
          rw [Heap.size_push] at z
          rcases List.mem_cons.mp z with e | z
          · exact absurd e (Nat.ne_of_lt (Nat.lt_succ_self _))
          · exact absurd (List.mem_singleton.mp z) (Nat.ne_of_gt lt0)
        have iv : ∀ (i : Nat) (v : Value), its[i]? = some v → ∃ k t, ks[i]? = some k ∧ v = .int k t := fun i v hv => by
          have hi : i < ks.length := zs ▸ (Array.getElem?_eq_some_iff.mp hv).1
          obtain ⟨t, e⟩ := IntsAre.int_at I i v ((Array.getElem?_toList (xs := its) (i := i)).trans hv)
          exact ⟨ks[i], t, List.getElem?_eq_getElem hi, by rw [e, List.getD_eq_getElem?_getD, List.getElem?_eq_getElem hi]; rfl⟩
        refine set_update_ints ((Walks.list hA3 _ l n1 its).toS) s.heap.objs.size n2 ks zs hk iv (its.size - 0) 0 _ (by omega) (Nat.zero_le _) ⟨⟨_, Heap.get?_push_size _ rfl, rfl, rfl⟩, (L1.push _)⟩ ?begins ?ended
        case begins => exact ⟨0, Nat.le_refl 0, setR_new_at (Heap.get?_push_of_some _ g1)⟩
        case ended =>
          intro s3 m hm hc hS
          obtain ⟨h3, g', d3, u, o3⟩ := s3
          have z1 : g' = s.gens := hm.gens
          have z2 : d3 = s.drawn := hm.drawn
          have z3 : o3 = s.os := hm.os
          subst z1; subst z2; subst z3
          show wpAny _ _ _ _ _ _
          refine wpAny_pure ?_; show wpAny _ _ (ret Value.none) _ _ _
          refine wpAny_pure ⟨rfl, h3, u, m, rfl, hS, zs ▸ hc, fun b o e => ?_⟩
          have b0 : b < s.heap.objs.size := Heap.lt_size e
          refine hm.heap b o ?_ (Heap.get?_push_of_some _ (Heap.get?_push_of_some _ e))
          intro z
          rw [Heap.size_push] at z
          rcases List.mem_cons.mp z with e1 | z
          · exact absurd e1 (Nat.ne_of_lt b0)
          · exact absurd (List.mem_singleton.mp z) (Nat.ne_of_lt (Nat.lt_succ_of_lt b0))
      · cases r2 with
        | error e => exact hr2
        | ok f2 =>
          cases f2 with
          | ret r =>
            obtain ⟨rfl, h2, u, m, rfl, x1, x2, x3⟩ := hr2
            repeat (any_goals (first | assumption | wp_step))
            exact q h2 u m x1 x2 x3
          | _ => exact hr2.elim
    | _ => exact hr.elim
end
def rSetL (K : PySem.W.Frag) (w : World) : List V → Hp → VK → Prop := fun xs H Q => ∃ (l : Addr) (ks : List Int), xs = [.ref l] ∧ SqL K H l (ks.map V.int) ∧ ks.length ≤ 1000 ∧
  ∀ (p : Addr) (m : Nat), m ≤ ks.length → H p = none → Q (.ref p) (upd H p (SetO w p (fun j => decide (j ∈ ks)) m))
theorem cr_setL {X : Cx} (hc : X.calm = true) : CallR X (.type "set") (rSetL X.K X.w) := by
  intro pins s σ H xs us Q I r h
  obtain ⟨l, ks, rfl, hs, hl, q⟩ := h
  cases r with
  | cons r rr =>
    cases rr
    cases r
    obtain ⟨its, rv, pl, hz⟩ := I.list hs
    refine made ks (I.ok.hd hc) pl.isList (by simpa using rv.ints) (by unfold scanBound; omega) fun h2 u m x1 x2 x3 => ?_
    have nf : H s.heap.objs.size = none := I.hok.fresh (Nat.le_refl _)
    exact ⟨.ref s.heap.objs.size, _, I.laid (t' := u) x3 (Nat.le_refl _) (setO_new x1), rfl, q _ m x2 nf⟩
end SLs
namespace K07
open PySem L2 Pg RZ
def top (i : Nat) : Stmt := PySem.Challenge.pw_meetstores_k07_whole_roots.main.body.getD i (.Pass ⟨0, 0, 0, 0⟩)
/-- a def of the top, by its name -/
structure Dfn (K : PySem.W.Frag) (mg : Str → Option Value) (x : Str) (st : Stmt) (ps : List Str) (f : Addr) (fd : FuncData) : Prop where
  F : Fun K x x st f fd
  g : mg x = some (.ref f)
  b : Binds K fd ps []
/-- the built-in names that the top leaves alone -/
structure Bi (mg : Str → Option Value) : Prop where
  len : mg "len" = none
  int : mg "int" = none
  range : mg "range" = none
  tuple : mg "tuple" = none
  list : mg "list" = none
  isinstance : mg "isinstance" = none
  zip : mg "zip" = none
  type : mg "type" = none
  str : mg "str" = none
  bool : mg "bool" = none
  all : mg "all" = none
  min : mg "min" = none
  max : mg "max" = none
/-! ### the draws -/
def Keep (r : Addr) (H H' : Hp) : Prop := ∀ b o, b ≠ r → H b = some o → H' b = some o
theorem yes {σ : St} {H : Hp} {te : TE} {k : V → Hp → Prop} {N : Hp → Prop} (h : te σ H k) : tYes σ H fun b H3 => if b = true then te σ H3 k else N H3 := by
  show if true = true then te σ H k else N H
  rw [if_pos rfl]
  exact h
theorem Keep.refl (r : Addr) (H : Hp) : Keep r H H := fun _ _ _ h => h
theorem Keep.trans {r : Addr} {H H1 H2 : Hp} (a : Keep r H H1) (b : Keep r H1 H2) : Keep r H H2 := fun c o n h => b c o n (a c o n h)
theorem Keep.of {r : Addr} {H H1 : Hp} (a : Same H H1) : Keep r H H1 := fun c o _ h => a c o h
theorem Keep.upd {r : Addr} {H : Hp} {o : HO} : Keep r H (upd H r o) := fun b u n h => by rw [upd_ne n]; exact h
theorem Same.new {H : Hp} {p : Addr} {o : HO} (h : H p = none) : Same H (upd H p o) := fun b x e => by
  rw [upd_ne (ne_of_none e h)]
  exact e
theorem Keep.new {r : Addr} {H : Hp} {p : Addr} {o : HO} (h : H p = none) : Keep r H (L2.upd H p o) := Keep.of (Same.new h)
structure RowI (K : PySem.W.Frag) (H : Hp) (r sc : Addr) (ns : List Int) : Prop where
  row : ∃ n x z : Int, H r = some (.lst [.ref sc, .int n, .int x, .int z]) ∧ 0 ≤ n ∧ 0 ≤ x ∧ x < 2147483647
  stay : ∀ H', Keep r H H' → SqL K H' sc (ns.map V.int)
theorem RowI.scr {K : PySem.W.Frag} {H : Hp} {r sc : Addr} {ns : List Int} (R : RowI K H r sc ns) : SqL K H sc (ns.map V.int) := R.stay H (Keep.refl r H)
theorem Keep.seq {K : PySem.W.Frag} {r : Addr} {H H' : Hp} {a : Addr} {xs : List V} (e : Keep r H H') (n : a ≠ r) (h : SqL K H a xs) : SqL K H' a xs := by
  rcases h with (h | ⟨o, h⟩) | h
  · exact .inl (.inl (e _ _ n h))
  · exact .inl (.inr ⟨o, e _ _ n h⟩)
  · exact .inr h
theorem Keep.seqT {K : PySem.W.Frag} {r : Addr} {H H' : Hp} {a : Addr} {xs : List V} (e : Keep r H H') (n : a ≠ r) (h : SqT K H a xs) : SqT K H' a xs := by
  rcases h with (h | ⟨o, h⟩) | h
  · exact .inl (.inl (e _ _ n h))
  · exact .inl (.inr ⟨o, e _ _ n h⟩)
  · exact .inr h
theorem Same.seqT {K : PySem.W.Frag} {H H' : Hp} {a : Addr} {xs : List V} (e : Same H H') (h : SqT K H a xs) : SqT K H' a xs := by
  rcases h with (h | ⟨o, h⟩) | h
  · exact .inl (.inl (e _ _ h))
  · exact .inl (.inr ⟨o, e _ _ h⟩)
  · exact .inr h
theorem RowI.same {K : PySem.W.Frag} {H H' : Hp} {r sc : Addr} {ns : List Int} (R : RowI K H r sc ns) (e : Same H H') : RowI K H' r sc ns := by
  obtain ⟨⟨n, x, z, h, b⟩, s⟩ := R
  exact ⟨⟨n, x, z, e _ _ h, b⟩, fun H'' k => s H'' ((Keep.of e).trans k)⟩
theorem RowI.new {K : PySem.W.Frag} {H : Hp} {r sc p : Addr} {ns : List Int} (R : RowI K H r sc ns) (hp : H p = none) : p ≠ r := fun e => by
  obtain ⟨⟨_, _, _, h, _⟩, _⟩ := R
  rw [e, h] at hp
  cases hp
theorem Keep.free {r p : Addr} {H H' : Hp} (k : Keep r H H') (h : H' p = none) (n : p ≠ r) : H p = none := by
  cases e : H p with
  | none => rfl
  | some o => rw [k _ _ n e] at h; cases h
/-- another object than the row is written: the script is as it was ahead of it -/
theorem RowI.ups {K : PySem.W.Frag} {H H3 : Hp} {r sc p : Addr} {ns : List Int} {o : HO} (R : RowI K H3 r sc ns) (R0 : RowI K H r sc ns) (np : p ≠ r) (k : Keep r H (upd H3 p o)) : RowI K (upd H3 p o) r sc ns := by
  obtain ⟨⟨n, x, z, h, b⟩, s⟩ := R
  exact ⟨⟨n, x, z, by rw [upd_ne np.symm]; exact h, b⟩, fun H'' k' => R0.stay H'' (k.trans k')⟩
theorem RowI.set {K : PySem.W.Frag} {H : Hp} {r sc : Addr} {ns : List Int} (R : RowI K H r sc ns) {n x z : Int} (hn : 0 ≤ n) (h0 : 0 ≤ x) (h1 : x < 2147483647) : RowI K (upd H r (.lst [.ref sc, .int n, .int x, .int z])) r sc ns :=
  ⟨⟨n, x, z, upd_same, hn, h0, h1⟩, fun H'' k => R.stay H'' (Keep.upd.trans k)⟩
theorem RowI.start {K : PySem.W.Frag} {H : Hp} {r sc : Addr} {ns : List Int} {x : Int} (hS : SqL K H sc (ns.map V.int)) (hr : H r = none) (h0 : 0 ≤ x) (h1 : x < 2147483647) : RowI K (upd H r (.lst [.ref sc, .int 0, .int x, .int 0])) r sc ns := by
  refine ⟨⟨0, x, 0, upd_same, Int.le_refl 0, h0, h1⟩, fun H' k => ?_⟩
  rcases hS with (h | ⟨o, h⟩) | h
  · have n : sc ≠ r := ne_of_none h hr
    exact .inl (.inl (k _ _ n (by rw [upd_ne n]; exact h)))
  · have n : sc ≠ r := ne_of_none h hr
    exact .inl (.inr ⟨o, k _ _ n (by rw [upd_ne n]; exact h)⟩)
  · exact .inr h
/-- bytes as values -/
def bV (l : List Nat) : List V := l.map fun (n : Nat) => V.int (n : Int)
theorem bV_len (l : List Nat) : (bV l).length = l.length := List.length_map _
theorem bV_app (l : List Nat) (u : Nat) : bV (l ++ [u]) = bV l ++ [.int (u : Int)] := by
  unfold bV
  rw [List.map_append]
  rfl
theorem bV_get {l : List Nat} {i : Nat} {x : V} (h : (bV l)[i]? = some x) : ∃ n, l[i]? = some n ∧ x = .int (n : Int) := by
  unfold bV at h
  rw [List.getElem?_map] at h
  cases e : l[i]? with
  | none => rw [e] at h; cases h
  | some n => rw [e] at h; exact ⟨n, rfl, (Option.some.inj h).symm⟩
theorem bV_at {l : List Nat} {i n : Nat} (h : l[i]? = some n) : (bV l)[i]? = some (.int (n : Int)) := by
  unfold bV
  rw [List.getElem?_map, h]
  rfl
def Byt (l : List Nat) : Prop := ∀ o, o ∈ l → o < 256
theorem bV_append (l m : List Nat) : bV l ++ bV m = bV (l ++ m) := by unfold bV; rw [List.map_append]
abbrev s_law_taken : Stmt := top 30
abbrev n_law_taken : List Str := ["row", "many", "found", "cell"]
abbrev p_law_taken : List Str := ["row", "many"]
theorem sc_law_taken : FnScope n_law_taken p_law_taken (defScope s_law_taken) := ⟨rfl, rfl, rfl, by decide +kernel, rfl, by decide +kernel, by decide +kernel⟩
def spTaken (K : PySem.W.Frag) : Sp := fun vs H Q _ => ∃ (r sc : Addr) (ns : List Int) (many : Int), vs = [.ref r, .int many] ∧ RowI K H r sc ns ∧ 0 < many ∧ many < 9223372036854775808 ∧
  ∀ (v : Int) (H' : Hp), 0 ≤ v → v < many → RowI K H' r sc ns → Keep r H H' → Q (.int v) H'
section
variable {P : Program} {w : World} {K : PySem.W.Frag} {mg : Str → Option Value} {base : Heap}
theorem ok_taken {f : Addr} {fd : FuncData} (D : Dfn K mg "_law_taken" s_law_taken p_law_taken f fd) (B : Bi mg) : FnOk P w K mg base CX0 1 f fd p_law_taken (spTaken K) := by
  refine D.F.ok sc_law_taken (fun vs H Q E h => ?_) (fun cdv A outer s H vs Q E hr h => ?_)
  · obtain ⟨r, sc, ns, many, rfl, _⟩ := h
    rfl
  · obtain ⟨r, sc, ns, many, rfl, R, m0, m1, q⟩ := h
    have nd := sc_law_taken.nd
    refine ⟨_, pss_cons (ps_if (pt_cmpR op_gt (pe_ix ix_list (pv 0) pe_int (fun _ _ => rfl)) pe_int (nomark _))
        (pss_cons (ps_set (i := 2) nd rfl (.inl rfl) (pe_op op_modN (pe_callTy call_int1 (by rfl) B.int (by decide +kernel) (pa_cons (pe_ix ix_list (pv 0) pe_int (fun _ _ => rfl)) pa_nil)) (pv 1)))
        (pss_cons (ps_asg (pe_op op_fdivW (pe_ix ix_list (pv 0) pe_int (fun _ _ => rfl)) (pv 1)) (pg_sub (pv 0) pe_int set_list))
        (pss_one (ps_ret (pv 2))))) pss_nil)
      (pss_cons (ps_asg (pe_op op_add (pe_ix ix_list (pv 0) pe_int (fun _ _ => rfl)) pe_int) (pg_sub (pv 0) pe_int set_list))
      (pss_cons (ps_if (pt_cmpR op_gt (pe_ix ix_list (pv 0) pe_int (fun _ _ => rfl)) (pe_callB call_len_seq (by rfl) B.len PySem.boot_len (pa_cons (pe_ix ix_list (pv 0) pe_int (fun _ _ => rfl)) pa_nil)) (nomark _))
        (pss_cons (ps_asg (pe_op op_modN (pe_callTy call_int1 (by rfl) B.int (by decide +kernel) (pa_cons (pe_op op_add (pe_op op_mul (pe_ix ix_list (pv 0) pe_int (fun _ _ => rfl)) pe_int) pe_int) pa_nil)) pe_int) (pg_sub (pv 0) pe_int set_list))
        (pss_one (ps_ret (pe_op op_modN (pe_callTy call_int1 (by rfl) B.int (by decide +kernel) (pa_cons (pe_op op_fdivN (pe_ix ix_list (pv 0) pe_int (fun _ _ => rfl)) pe_int) pa_nil)) (pv 1))))) pss_nil)
      (pss_cons (ps_set (i := 3) nd rfl (.inl rfl) (pe_ix ix_list (pe_ix ix_list (pv 0) pe_int (fun _ _ => rfl)) (pe_op op_sub (pe_ix ix_list (pv 0) pe_int (fun _ _ => rfl)) pe_int) (fun _ _ => rfl)))
      (pss_cons (ps_asg (pe_op op_modN (pe_callTy call_int1 (by rfl) B.int (by decide +kernel) (pa_cons (pe_op op_add (pe_op op_add (pe_op op_mul (pe_ix ix_list (pv 0) pe_int (fun _ _ => rfl)) pe_int) (pv 3)) pe_int) pa_nil)) pe_int) (pg_sub (pv 0) pe_int set_list))
      (pss_cons (ps_if (pt_cmpR op_ge (pv 3) (pe_op op_pow pe_int pe_int) (nomark _))
        (pss_one (ps_asg (pe_op op_fdivW (pv 3) (pv 1)) (pg_sub (pv 0) pe_int set_list))) pss_nil)
      (pss_one (ps_ret (pe_op op_modN (pe_callTy call_int1 (by rfl) B.int (by decide +kernel) (pa_cons (pv 3) pa_nil)) (pv 1))))))))), ?_⟩
    obtain ⟨⟨n, x, z, hrow, hn, hx0, hx1⟩, hst⟩ := id R
    have g0 : ∀ (a b c d : V), atI [a, b, c, d] (0 : Int) = some a := fun _ _ _ _ => rfl
    have g1 : ∀ (a b c d : V), atI [a, b, c, d] (1 : Int) = some b := fun _ _ _ _ => rfl
    have g2 : ∀ (a b c d : V), atI [a, b, c, d] (2 : Int) = some c := fun _ _ _ _ => rfl
    have g3 : ∀ (a b c d : V), atI [a, b, c, d] (3 : Int) = some d := fun _ _ _ _ => rfl
    -- if row[3] > 0
    refine ⟨_, rfl, r, _, _, _, rfl, rfl, SqL.of hrow, g3 _ _ _ _, _, _, rfl, rfl, _, rfl, ?_⟩
    by_cases hz : 0 < z
    · rw [decide_eq_true hz]
      refine iteT ?_
      refine ⟨_, rfl, r, _, _, _, rfl, rfl, SqL.of hrow, g3 _ _ _ _, .inl ⟨_, rfl, _, rfl, _, _, rfl, rfl, (by omega), ?_⟩⟩
      refine ⟨_, rfl, r, _, _, _, rfl, rfl, SqL.of hrow, g3 _ _ _ _, _, rfl, _, _, rfl, rfl, wide_div (b := 63) m0 (by omega) (by decide) (by decide), ?_⟩
      refine ⟨_, rfl, r, _, _, 3, rfl, rfl, hrow, rfl, ?_⟩
      refine ⟨_, rfl, ?_⟩
      refine q _ _ ?_ ?_ (R.set hn hx0 hx1) Keep.upd
      · exact Int.fmod_nonneg_of_pos _ m0
      · exact Int.fmod_lt_of_pos _ m0
    · rw [decide_eq_false hz]
      refine iteF ?_
      -- row[1] = row[1] + 1
      refine ⟨_, rfl, r, _, _, _, rfl, rfl, SqL.of hrow, g1 _ _ _ _, _, _, rfl, rfl, _, rfl, r, _, _, 1, rfl, rfl, hrow, rfl, ?_⟩
      have R1 : RowI K (upd H r (.lst [.ref sc, .int (n + 1), .int x, .int z])) r sc ns := R.set (by omega) hx0 hx1
      have k1 : Keep r H (upd H r (.lst [.ref sc, .int (n + 1), .int x, .int z])) := Keep.upd
      show tSeq _ _ _ _ (upd H r (.lst [.ref sc, .int (n + 1), .int x, .int z]))
      have h1 : upd H r (.lst [.ref sc, .int (n + 1), .int x, .int z]) r = some (.lst [.ref sc, .int (n + 1), .int x, .int z]) := upd_same
      generalize upd H r (.lst [.ref sc, .int (n + 1), .int x, .int z]) = H1 at R1 k1 h1
      -- if row[1] > len(row[0])
      refine ⟨_, rfl, r, _, _, _, rfl, rfl, SqL.of h1, g1 _ _ _ _, _, rfl, r, _, _, _, rfl, rfl, SqL.of h1, g0 _ _ _ _, sc, _, rfl, .inl R1.scr, _, _, rfl, rfl, _, rfl, ?_⟩
      rw [List.length_map]
      by_cases hl : (ns.length : Int) < n + 1
      · rw [decide_eq_true hl]
        refine iteT ?_
        refine ⟨_, rfl, r, _, _, _, rfl, rfl, SqL.of h1, g2 _ _ _ _, _, _, rfl, rfl, .inl ⟨by omega, by omega⟩, _, _, rfl, rfl, .inl ⟨_, rfl, _, _, rfl, rfl, (by show (2147483647 : Int) ≠ 0; decide), ?_⟩⟩
        refine ⟨_, rfl, r, _, _, 2, rfl, rfl, h1, rfl, ?_⟩
        have R2 : RowI K (upd H1 r (.lst [.ref sc, .int (n + 1), .int ((x * 48271 + 11).fmod 2147483647), .int z])) r sc ns := R1.set (by omega) (Int.fmod_nonneg_of_pos _ (by decide)) (Int.fmod_lt_of_pos _ (by decide))
        have h2 : upd H1 r (.lst [.ref sc, .int (n + 1), .int ((x * 48271 + 11).fmod 2147483647), .int z]) r = some _ := upd_same
        refine ⟨_, rfl, r, _, _, _, rfl, rfl, SqL.of h2, g2 _ _ _ _, _, _, rfl, rfl, ⟨by decide, by decide⟩, .inl ⟨_, rfl, _, rfl, _, _, rfl, rfl, by omega, ?_⟩⟩
        exact q _ _ (Int.fmod_nonneg_of_pos _ m0) (Int.fmod_lt_of_pos _ m0) R2 (k1.trans Keep.upd)
      · rw [decide_eq_false hl]
        refine iteF ?_
        have hlt : n.toNat < ns.length := by omega
        -- cell = row[0][row[1] - 1]
        refine ⟨_, rfl, r, _, _, _, rfl, rfl, SqL.of h1, g0 _ _ _ _, _, rfl, r, _, _, _, rfl, rfl, SqL.of h1, g1 _ _ _ _, _, _, rfl, rfl, sc, _, _, _, rfl, rfl, R1.scr, at_of (j := n.toNat) (v := V.int ns[n.toNat]) (by omega) (by rw [List.getElem?_map, List.getElem?_eq_getElem hlt]; rfl), ?_⟩
        generalize ns[n.toNat] = c
        refine ⟨_, rfl, r, _, _, _, rfl, rfl, SqL.of h1, g2 _ _ _ _, _, _, rfl, rfl, .inl ⟨by omega, by omega⟩, _, rfl, _, _, rfl, rfl, _, _, rfl, rfl, .inl ⟨_, rfl, _, _, rfl, rfl, (by show (2147483647 : Int) ≠ 0; decide), ?_⟩⟩
        refine ⟨_, rfl, r, _, _, 2, rfl, rfl, h1, rfl, ?_⟩
        have R2 : RowI K (upd H1 r (.lst [.ref sc, .int (n + 1), .int ((x * 48271 + c + 11).fmod 2147483647), .int z])) r sc ns := R1.set (by omega) (Int.fmod_nonneg_of_pos _ (by decide)) (Int.fmod_lt_of_pos _ (by decide))
        have h2 : upd H1 r (.lst [.ref sc, .int (n + 1), .int ((x * 48271 + c + 11).fmod 2147483647), .int z]) r = some _ := upd_same
        have k2 : Keep r H (upd H1 r (.lst [.ref sc, .int (n + 1), .int ((x * 48271 + c + 11).fmod 2147483647), .int z])) := k1.trans Keep.upd
        refine ⟨_, rfl, _, _, rfl, rfl, ⟨by decide, by decide, by decide⟩, _, _, rfl, rfl, _, rfl, ?_⟩
        by_cases hc : (10 : Int) ^ (18 : Int).toNat ≤ c
        · rw [decide_eq_true hc]
          refine iteT ?_
          refine ⟨_, rfl, _, rfl, _, _, rfl, rfl, wide_div (b := 63) m0 (by omega) (by decide) (by decide), _, rfl, r, _, _, 3, rfl, rfl, h2, rfl, ?_⟩
          refine ⟨_, rfl, .inl ⟨_, rfl, _, rfl, _, _, rfl, rfl, by omega, ?_⟩⟩
          exact q _ _ (Int.fmod_nonneg_of_pos _ m0) (Int.fmod_lt_of_pos _ m0) (R2.set (by omega) (Int.fmod_nonneg_of_pos _ (by decide)) (Int.fmod_lt_of_pos _ (by decide))) (k2.trans Keep.upd)
        · rw [decide_eq_false hc]
          refine iteF ?_
          refine ⟨_, rfl, .inl ⟨_, rfl, _, rfl, _, _, rfl, rfl, by omega, ?_⟩⟩
          exact q _ _ (Int.fmod_nonneg_of_pos _ m0) (Int.fmod_lt_of_pos _ m0) R2 k2
end
section
variable {P : Program} {w : World} {K : PySem.W.Frag} {mg : Str → Option Value} {base : Heap}
abbrev s_law_pick : Stmt := top 32
abbrev n_law_pick : List Str := ["row", "things"]
abbrev p_law_pick : List Str := ["row", "things"]
theorem sc_law_pick : FnScope n_law_pick p_law_pick (defScope s_law_pick) := ⟨rfl, rfl, rfl, by decide +kernel, rfl, by decide +kernel, by decide +kernel⟩
def spPick (K : PySem.W.Frag) : Sp := fun vs H Q _ => ∃ (r sc : Addr) (ns : List Int) (a : Addr) (xs : List V), vs = [.ref r, .ref a] ∧ RowI K H r sc ns ∧ SqL K H a xs ∧ a ≠ r ∧ 0 < xs.length ∧ xs.length < 1073741824 ∧
  ∀ (v : V) (H' : Hp), v ∈ xs → RowI K H' r sc ns → Keep r H H' → Q v H'
theorem ok_pick {f fT : Addr} {fd fdT : FuncData} (D : Dfn K mg "_law_pick" s_law_pick p_law_pick f fd) (B : Bi mg) (DT : Dfn K mg "_law_taken" s_law_taken p_law_taken fT fdT) : FnOk P w K mg base CX0 2 f fd p_law_pick (spPick K) := by
  have GT : FnOk P w K mg base CX0 1 fT fdT p_law_taken (spTaken K) := ok_taken DT B
  refine D.F.ok sc_law_pick (fun vs H Q E h => ?_) (fun cdv A outer s H vs Q E hr h => ?_)
  · obtain ⟨r, sc, ns, a, xs, rfl, _⟩ := h
    rfl
  · obtain ⟨r, sc, ns, a, xs, rfl, R, hs, hne, hl0, hl1, q⟩ := h
    refine ⟨_, pss_one (ps_ret (pe_ix ix_list (pv 1) (pe_call GT hr (by rfl) DT.g DT.F.kp DT.b .nil pass0 (pa_cons (pv 0) (pa_cons (pe_callB call_len_seq (by rfl) B.len PySem.boot_len (pa_cons (pv 1) pa_nil)) pa_nil))) (fun _ _ => rfl))), ?_⟩
    refine ⟨_, rfl, _, rfl, _, rfl, a, xs, rfl, .inl hs, r, sc, ns, _, rfl, R, by omega, by omega, fun v H' v0 v1 R' k => ?_⟩
    have hlt : v.toNat < xs.length := by omega
    refine ⟨a, xs, v, xs[v.toNat], rfl, rfl, k.seq hne hs, at_of (j := v.toNat) (by omega) (List.getElem?_eq_getElem hlt), ?_⟩
    exact q _ _ (List.getElem_mem hlt) R' k
end
/-! ### bits -/
theorem xN (a b : Nat) : Builtin.bitXor (a : Int) (b : Int) = ((a ^^^ b : Nat) : Int) := by
  rw [Bits.bitXor_pp (by omega) (by omega), Int.toNat_natCast, Int.toNat_natCast]
theorem aN (a b : Nat) : Builtin.bitAnd (a : Int) (b : Int) = ((a &&& b : Nat) : Int) := by
  rw [PyProof.Rows.bitAnd_pp (by omega) (by omega), Int.toNat_natCast, Int.toNat_natCast]
theorem oN (a b : Nat) : Builtin.bitOr (a : Int) (b : Int) = ((a ||| b : Nat) : Int) := by
  rw [Bits.bitOr_pp (by omega) (by omega), Int.toNat_natCast, Int.toNat_natCast]
theorem shlN (a j : Nat) : (a : Int) * 2 ^ (j : Int).toNat = ((a <<< j : Nat) : Int) := by
  rw [Int.toNat_natCast, Nat.shiftLeft_eq]
  simp
theorem shrN (a j : Nat) : (a : Int) / 2 ^ (j : Int).toNat = ((a >>> j : Nat) : Int) := by
  rw [Int.toNat_natCast, Nat.shiftRight_eq_div_pow]
  simp
theorem nI {a : Nat} {i : Int} (h : i = (a : Int)) : V.int i = V.int (a : Int) := by rw [h]
theorem bit_test (b i : Nat) : V.bl (decide (V.int (Builtin.bitAnd ((b : Int) / 2 ^ (i : Int).toNat) 1) = V.int 1)) = V.bl (decide ((b >>> i) &&& 1 = 1)) := by
  have e : Builtin.bitAnd ((b : Int) / 2 ^ (i : Int).toNat) 1 = (((b >>> i) &&& 1 : Nat) : Int) := by
    rw [shrN]
    exact aN _ 1
  rw [e]
  congr 1
  rw [decide_eq_decide]
  constructor
  · intro h
    injection h with h
    omega
  · intro h
    rw [h]
    rfl
theorem take_more {α : Type} : ∀ {l : List α} {i : Nat} {x : α}, l[i]? = some x → l.take (i + 1) = l.take i ++ [x]
  | [], i, x, h => by simp at h
  | a :: l, 0, x, h => by
    have e : a = x := Option.some.inj h
    subst e
    rfl
  | a :: l, i + 1, x, h => by
    have ih := take_more (l := l) (i := i) (x := x) h
    show a :: l.take (i + 1) = a :: l.take i ++ [x]
    rw [ih]
    rfl
theorem foldl_more {α β : Type} {f : β → α → β} {b : β} {l : List α} {i : Nat} {x : α} (h : l[i]? = some x) : (l.take (i + 1)).foldl f b = f ((l.take i).foldl f b) x := by
  rw [take_more h, List.foldl_append]
  rfl
theorem take_all {α : Type} (l : List α) : l.take l.length = l := List.take_length
theorem int_eq0 (a : Nat) : V.bl (decide (V.int (a : Int) = V.int 0)) = V.bl (decide (a = 0)) := by
  congr 1
  rw [decide_eq_decide]
  constructor
  · intro h
    injection h with h
    omega
  · intro h
    rw [h]
    rfl
theorem int_eqN (a b : Nat) : V.bl (decide (V.int (a : Int) = V.int (b : Int))) = V.bl (decide (a = b)) := by
  congr 1
  rw [decide_eq_decide]
  constructor
  · intro h
    injection h with h
    omega
  · intro h
    rw [h]
theorem int_neN (a b : Nat) : V.bl (!decide (V.int (a : Int) = V.int (b : Int))) = V.bl (decide (a ≠ b)) := by
  have := int_eqN a b
  injection this with h
  rw [h]
  by_cases e : a = b <;> simp [e]
/-! ### data: alike -/
/-- plain data of at most such a depth -/
def Pl : Nat → PyData → Prop
  | _, .none => True
  | _, .bool _ => True
  | _, .int _ => True
  | _, .str x => PyData.canLay0 (.str x) = true
  | n + 1, .list xs => xs.length ≤ 100000 ∧ ∀ x, x ∈ xs → Pl n x
  | n + 1, .tuple xs => xs.length ≤ 100000 ∧ ∀ x, x ∈ xs → Pl n x
  | 0, .list _ => False
  | 0, .tuple _ => False
  | _, .dict _ => False
theorem Pl.lay : ∀ (n : Nat) (d : PyData), Pl n d → PyData.canLay0 d = true ∧ PyData.depth d ≤ n
  | n, .none, _ => ⟨by simp only [PyData.canLay0], by simp only [PyData.depth]; omega⟩
  | n, .bool _, _ => ⟨by simp only [PyData.canLay0], by simp only [PyData.depth]; omega⟩
  | n, .int _, _ => ⟨by simp only [PyData.canLay0], by simp only [PyData.depth]; omega⟩
  | n, .str x, h => ⟨by cases n <;> exact h, by simp only [PyData.depth]; omega⟩
  | n + 1, .list xs, h => by
    obtain ⟨_, h⟩ := h
    have : ∀ ys : List PyData, (∀ y, y ∈ ys → Pl n y) → PyData.canLayAll0 ys = true ∧ PyData.depthAll ys ≤ n := by
      intro ys
      induction ys with
      | nil => intro _; exact ⟨by simp only [PyData.canLayAll0], by simp only [PyData.depthAll]; omega⟩
      | cons y ys ih =>
        intro hy
        obtain ⟨a, b⟩ := Pl.lay n y (hy y List.mem_cons_self)
        obtain ⟨c, e⟩ := ih fun z hz => hy z (List.mem_cons_of_mem _ hz)
        refine ⟨by simp only [PyData.canLayAll0, a, c, Bool.and_self], ?_⟩
        simp only [PyData.depthAll]
        omega
    obtain ⟨a, b⟩ := this xs h
    refine ⟨by simp only [PyData.canLay0, a], ?_⟩
    simp only [PyData.depth]
    omega
  | n + 1, .tuple xs, h => by
    obtain ⟨_, h⟩ := h
    have : ∀ ys : List PyData, (∀ y, y ∈ ys → Pl n y) → PyData.canLayAll0 ys = true ∧ PyData.depthAll ys ≤ n := by
      intro ys
      induction ys with
      | nil => intro _; exact ⟨by simp only [PyData.canLayAll0], by simp only [PyData.depthAll]; omega⟩
      | cons y ys ih =>
        intro hy
        obtain ⟨a, b⟩ := Pl.lay n y (hy y List.mem_cons_self)
        obtain ⟨c, e⟩ := ih fun z hz => hy z (List.mem_cons_of_mem _ hz)
        refine ⟨by simp only [PyData.canLayAll0, a, c, Bool.and_self], ?_⟩
        simp only [PyData.depthAll]
        omega
    obtain ⟨a, b⟩ := this xs h
    refine ⟨by simp only [PyData.canLay0, a], ?_⟩
    simp only [PyData.depth]
    omega
  | 0, .list _, h => nomatch h
  | 0, .tuple _, h => nomatch h
  | 0, .dict _, h => nomatch h
  | _ + 1, .dict _, h => nomatch h
theorem Pl.shaped {n : Nat} {d : PyData} (h : Pl n d) (hn : n ≤ 64) : SeqAt.shaped d = true := by
  obtain ⟨a, b⟩ := Pl.lay n d h
  unfold SeqAt.shaped
  rw [a, decide_eq_true (Nat.le_trans b hn)]
  rfl
theorem Pl.succ : ∀ (n : Nat) (d : PyData), Pl n d → Pl (n + 1) d
  | n, .none, _ => True.intro
  | n, .bool _, _ => True.intro
  | n, .int _, _ => True.intro
  | n, .str x, h => by cases n <;> exact h
  | n + 1, .list xs, h => ⟨h.1, fun x hx => Pl.succ n x (h.2 x hx)⟩
  | n + 1, .tuple xs, h => ⟨h.1, fun x hx => Pl.succ n x (h.2 x hx)⟩
  | 0, .list _, h => nomatch h
  | 0, .tuple _, h => nomatch h
  | 0, .dict _, h => nomatch h
  | _ + 1, .dict _, h => nomatch h
mutual
theorem Dp.same {K : PySem.W.Frag} {H H' : Hp} (s : Same H H') : ∀ (d : PyData) (x : V), Dp K H x d → Dp K H' x d
  | .none, _, h => by cases h; exact .non
  | .bool _, _, h => by cases h; exact .bl _
  | .int _, _, h => by cases h; exact .int _
  | .str _, _, h => by cases h; exact .str _
  | .list ds, _, h => by
    cases h with
    | lst hs ha => exact .lst (s.seq hs) (DpAll.same s ds _ ha)
  | .tuple ds, _, h => by
    cases h with
    | tup hs ha => exact .tup (Same.seqT s hs) (DpAll.same s ds _ ha)
  | .dict _, _, h => by cases h
theorem DpAll.same {K : PySem.W.Frag} {H H' : Hp} (s : Same H H') : ∀ (ds : List PyData) (xs : List V), DpAll K H xs ds → DpAll K H' xs ds
  | [], _, h => by cases h; exact .nil
  | d :: ds, _, h => by
    cases h with
    | cons h1 h2 => exact .cons (Dp.same s d _ h1) (DpAll.same s ds _ h2)
end
theorem DpAll.len {K : PySem.W.Frag} {H : Hp} : ∀ {ds : List PyData} {xs : List V}, DpAll K H xs ds → xs.length = ds.length
  | [], _, h => by cases h; rfl
  | d :: ds, _, h => by
    cases h with
    | cons h1 h2 => rw [List.length_cons, List.length_cons, DpAll.len h2]
theorem DpAll.get {K : PySem.W.Frag} {H : Hp} : ∀ {ds : List PyData} {xs : List V} {i : Nat}, DpAll K H xs ds → (h : i < ds.length) → ∃ x, xs[i]? = some x ∧ Dp K H x ds[i]
  | [], _, i, _, h => by simp at h
  | d :: ds, _, 0, h, _ => by
    cases h with
    | cons h1 h2 => exact ⟨_, rfl, h1⟩
  | d :: ds, _, i + 1, h, hi => by
    cases h with
    | cons h1 h2 =>
      obtain ⟨x, e, q⟩ := DpAll.get (i := i) h2 (by simpa using hi)
      exact ⟨x, by simpa using e, by simpa using q⟩
def isLst : PyData → Bool | .list _ => true | _ => false
def isTup : PyData → Bool | .tuple _ => true | _ => false
def isSt : PyData → Bool | .str _ => true | _ => false
def isBo : PyData → Bool | .bool _ => true | _ => false
def isIn : PyData → Bool | .int _ => true | .bool _ => true | _ => false
def isNo : PyData → Bool | .none => true | _ => false
def its : PyData → List PyData | .list xs => xs | .tuple xs => xs | _ => []
def kindOf : PyData → String
  | .none => "NoneType" | .bool _ => "bool" | .int _ => "int" | .str _ => "str" | .list _ => "list" | .tuple _ => "tuple" | .dict _ => "dict"
theorem SqL.ty {K : PySem.W.Frag} {H : Hp} {a : Addr} {xs : List V} (h : SqL K H a xs) : TyX K H (.ref a) (.type "list") := by
  rcases h with (h | ⟨o, h⟩) | ⟨o, its, n, h, c, _⟩
  · exact .base (.lst h)
  · exact .base (.frz h)
  · exact .kList h c
theorem SqT.ty {K : PySem.W.Frag} {H : Hp} {a : Addr} {xs : List V} (h : SqT K H a xs) : TyX K H (.ref a) (.type "tuple") := by
  rcases h with (h | ⟨o, h⟩) | ⟨o, its, n, h, c, _⟩
  · exact .base (.tup h)
  · exact .fTuple h
  · exact .kTuple h c
theorem Dp.ty {K : PySem.W.Frag} {H : Hp} {x : V} {d : PyData} (h : Dp K H x d) : TyX K H x (.type (kindOf d)) := by
  cases h with
  | non => exact .base .non
  | bl b => exact .base (.bl b)
  | int i => exact .base (.int i)
  | str x => exact .base (.str x)
  | lst hs _ => exact SqL.ty hs
  | tup hs _ => exact SqT.ty hs
theorem Dp.nod {K : PySem.W.Frag} {H : Hp} {x : V} {d : PyData} (h : Dp K H x d) : ∀ kv, d ≠ .dict kv := by
  intro kv e
  subst e
  cases h
section
variable {K : PySem.W.Frag} {d : PyData} (nd : ∀ kv, d ≠ .dict kv)
include nd
theorem kit_lst : PySem.W.kitOne K (.type (kindOf d)) (.type "list") = some (isLst d) := by
  cases d with
  | none => exact kit_ty (a := "NoneType") (b := "list") (r := false) (by decide +kernel)
  | bool _ => exact kit_ty (a := "bool") (b := "list") (r := false) (by decide +kernel)
  | int _ => exact kit_ty (a := "int") (b := "list") (r := false) (by decide +kernel)
  | str _ => exact kit_ty (a := "str") (b := "list") (r := false) (by decide +kernel)
  | list _ => exact kit_ty (a := "list") (b := "list") (r := true) (by decide +kernel)
  | tuple _ => exact kit_ty (a := "tuple") (b := "list") (r := false) (by decide +kernel)
  | dict _ => exact absurd rfl (nd _)
theorem kit_str : PySem.W.kitOne K (.type (kindOf d)) (.type "str") = some (isSt d) := by
  cases d with
  | none => exact kit_ty (a := "NoneType") (b := "str") (r := false) (by decide +kernel)
  | bool _ => exact kit_ty (a := "bool") (b := "str") (r := false) (by decide +kernel)
  | int _ => exact kit_ty (a := "int") (b := "str") (r := false) (by decide +kernel)
  | str _ => exact kit_ty (a := "str") (b := "str") (r := true) (by decide +kernel)
  | list _ => exact kit_ty (a := "list") (b := "str") (r := false) (by decide +kernel)
  | tuple _ => exact kit_ty (a := "tuple") (b := "str") (r := false) (by decide +kernel)
  | dict _ => exact absurd rfl (nd _)
theorem kit_int : PySem.W.kitOne K (.type (kindOf d)) (.type "int") = some (isIn d) := by
  cases d with
  | none => exact kit_ty (a := "NoneType") (b := "int") (r := false) (by decide +kernel)
  | bool _ => exact kit_ty (a := "bool") (b := "int") (r := true) (by decide +kernel)
  | int _ => exact kit_ty (a := "int") (b := "int") (r := true) (by decide +kernel)
  | str _ => exact kit_ty (a := "str") (b := "int") (r := false) (by decide +kernel)
  | list _ => exact kit_ty (a := "list") (b := "int") (r := false) (by decide +kernel)
  | tuple _ => exact kit_ty (a := "tuple") (b := "int") (r := false) (by decide +kernel)
  | dict _ => exact absurd rfl (nd _)
theorem kit_bool : PySem.W.kitOne K (.type (kindOf d)) (.type "bool") = some (isBo d) := by
  cases d with
  | none => exact kit_ty (a := "NoneType") (b := "bool") (r := false) (by decide +kernel)
  | bool _ => exact kit_ty (a := "bool") (b := "bool") (r := true) (by decide +kernel)
  | int _ => exact kit_ty (a := "int") (b := "bool") (r := false) (by decide +kernel)
  | str _ => exact kit_ty (a := "str") (b := "bool") (r := false) (by decide +kernel)
  | list _ => exact kit_ty (a := "list") (b := "bool") (r := false) (by decide +kernel)
  | tuple _ => exact kit_ty (a := "tuple") (b := "bool") (r := false) (by decide +kernel)
  | dict _ => exact absurd rfl (nd _)
theorem kit_tup : PySem.W.kitOne K (.type (kindOf d)) (.type "tuple") = some (isTup d) := by
  cases d with
  | none => exact kit_ty (a := "NoneType") (b := "tuple") (r := false) (by decide +kernel)
  | bool _ => exact kit_ty (a := "bool") (b := "tuple") (r := false) (by decide +kernel)
  | int _ => exact kit_ty (a := "int") (b := "tuple") (r := false) (by decide +kernel)
  | str _ => exact kit_ty (a := "str") (b := "tuple") (r := false) (by decide +kernel)
  | list _ => exact kit_ty (a := "list") (b := "tuple") (r := false) (by decide +kernel)
  | tuple _ => exact kit_ty (a := "tuple") (b := "tuple") (r := true) (by decide +kernel)
  | dict _ => exact absurd rfl (nd _)
theorem kit_seq : PySem.W.kitAny K (.type (kindOf d)) [.type "tuple", .type "list"] = some (isTup d || isLst d) := by
  refine kitAny_cons (kit_tup nd) (fun h => ?_) (fun h => by rw [h]; rfl)
  refine kitAny_cons (kit_lst nd) (fun h2 => ?_) (fun h2 => by rw [h2, Bool.or_true])
  rw [h, h2]
  exact kitAny_nil
end
theorem Dp.seq {K : PySem.W.Frag} {H : Hp} {x : V} {d : PyData} (h : Dp K H x d) (s : (isTup d || isLst d) = true) : ∃ a xs, x = .ref a ∧ (SqL K H a xs ∨ SqT K H a xs) ∧ DpAll K H xs (its d) := by
  cases h with
  | lst hs ha => exact ⟨_, _, rfl, .inl hs, ha⟩
  | tup hs ha => exact ⟨_, _, rfl, .inr hs, ha⟩
  | _ => cases s
theorem its_eq {d e : PyData} (h1 : (isTup d || isLst d) = true) (h2 : (isTup e || isLst e) = true) (h : isLst d = isLst e) : d = e ↔ its d = its e := by
  constructor
  · intro q; rw [q]
  · intro q
    match d, e, h1, h2, h, q with
    | .list _, .list _, _, _, _, q => exact congrArg PyData.list q
    | .tuple _, .tuple _, _, _, _, q => exact congrArg PyData.tuple q
    | .list _, .tuple _, _, _, h, _ => cases h
    | .tuple _, .list _, _, _, h, _ => cases h
/-- at the places where two lists differ -/
theorem differ_at {α : Type} {l m : List α} {n : Nat} {ks : List Nat} (h1 : l.length = n) (h2 : m.length = n) (hk : ∀ k, k ∈ ks ↔ k < n ∧ l[k]? ≠ m[k]?) : ks = [] ↔ l = m := by
  constructor
  · intro e
    refine List.ext_getElem? fun k => ?_
    by_cases hlt : k < n
    · by_cases q : l[k]? = m[k]?
      · exact q
      · have := (hk k).mpr ⟨hlt, q⟩
        rw [e] at this
        cases this
    · rw [List.getElem?_eq_none (by omega), List.getElem?_eq_none (by omega)]
  · intro e
    cases ks with
    | nil => rfl
    | cons k ks => exact absurd (by rw [e]) ((hk k).mp List.mem_cons_self).2
abbrev s_law_alike : Stmt := top 36
abbrev n_law_alike : List Str := ["found", "due", "k"]
abbrev p_law_alike : List Str := ["found", "due"]
theorem sc_law_alike : FnScope n_law_alike p_law_alike (defScope s_law_alike) := ⟨rfl, rfl, rfl, by decide +kernel, rfl, by decide +kernel, by decide +kernel⟩
def spAlike (K : PySem.W.Frag) (n : Nat) : Sp := fun vs H Q _ => ∃ (x y : V) (d e : PyData), vs = [x, y] ∧ Dp K H x d ∧ Dp K H y e ∧ Pl 20 d ∧ Pl n e ∧ ∀ (b : Bool) (H' : Hp), (b = true ↔ d = e) → Same H H' → Q (.bl b) H'
theorem eqv_atom {d e : PyData} (hd : ∀ kv, d ≠ .dict kv) (he : (isTup e || isLst e) = false) (hb : isBo d = isBo e) : PyData.eqv d e = true ↔ d = e := by
  cases e <;> first | cases he | skip
  all_goals cases d <;> first | exact absurd rfl (hd _) | cases hb | skip
  all_goals simp [PyData.eqv]
section
variable {P : Program} {w : World} {K : PySem.W.Frag} {mg : Str → Option Value} {base : Heap}
/-- one round of it; what it calls within is of a lesser depth -/
theorem ok_alike_step {f : Addr} {fd : FuncData} {n k : Nat} (hn : n ≤ 20) (D : Dfn K mg "_law_alike" s_law_alike p_law_alike f fd) (B : Bi mg)
    (IH : ∃ sp0, FnOk P w K mg base CX0 k f fd p_law_alike sp0 ∧ ∀ vs H Q E, n ≠ 0 → spAlike K (n - 1) vs H Q E → sp0 vs H Q E) :
    FnOk P w K mg base CX0 (k + 1) f fd p_law_alike (spAlike K n) := by
  have nd := sc_law_alike.nd
  obtain ⟨sp0, G0, I0⟩ := IH
  refine D.F.ok sc_law_alike (fun vs H Q E h => ?_) (fun cdv A outer s H vs Q E hr h => ?_)
  · obtain ⟨x, y, d, e, rfl, _⟩ := h
    rfl
  · obtain ⟨x, y, d, e, rfl, hd, he, pd, pe, q⟩ := h
    refine ⟨_, pss_cons (ps_if (pt_val (pe_callB call_isiT (by rfl) B.isinstance (by decide +kernel) (pa_cons (pv 1) (pa_cons (pe_tup (pa_cons (pe_bltn (v := .ty "tuple") (by rfl) B.tuple (by decide +kernel) rfl) (pa_cons (pe_bltn (v := .ty "list") (by rfl) B.list (by decide +kernel) rfl) pa_nil))) pa_nil))))
        (pss_cons (ps_if (PW.pt (pw_or (pt_not (pt_val (pe_callB call_isiT (by rfl) B.isinstance (by decide +kernel) (pa_cons (pv 0) (pa_cons (pe_tup (pa_cons (pe_bltn (v := .ty "tuple") (by rfl) B.tuple (by decide +kernel) rfl) (pa_cons (pe_bltn (v := .ty "list") (by rfl) B.list (by decide +kernel) rfl) pa_nil))) pa_nil)))))
            (pw_or1 (pt_cmpR op_ne (pe_callB call_isi (by rfl) B.isinstance (by decide +kernel) (pa_cons (pv 0) (pa_cons (pe_bltn (v := .ty "list") (by rfl) B.list (by decide +kernel) rfl) pa_nil))) (pe_callB call_isi (by rfl) B.isinstance (by decide +kernel) (pa_cons (pv 1) (pa_cons (pe_bltn (v := .ty "list") (by rfl) B.list (by decide +kernel) rfl) pa_nil))) (nomark _)))))
            (pss_one (ps_ret pe_bl)) pss_nil)
        (pss_cons (ps_if (pt_cmpR op_ne (pe_callB call_len_seq (by rfl) B.len PySem.boot_len (pa_cons (pv 0) pa_nil)) (pe_callB call_len_seq (by rfl) B.len PySem.boot_len (pa_cons (pv 1) pa_nil)) (nomark _)) (pss_one (ps_ret pe_bl)) pss_nil)
        (pss_one (ps_ret (pe_cmpR (op_eqD hr.units)
          (pe_lc (own := [("k", 2)]) (g := gName 2) rfl nd (pi_range1 (by rfl) B.range (pa_cons (pe_callB call_len_seq (by rfl) B.len PySem.boot_len (pa_cons (pv 1) pa_nil)) pa_nil))
            (blkOk_by (N := n_law_alike) (sc := defScope s_law_alike) (by decide +kernel)) (fun _ _ _ _ _ => pg_name (i := 2) nd rfl (.inl rfl))
            (fun _ _ _ _ _ => pts_one (pt_not (pt_val (pe_call G0 hr (by rfl) D.g D.F.kp D.b .nil pass0 (pa_cons (pe_ix (r := rIx K) ix_seq (pv 0) (pv 2) (fun _ _ => rfl)) (pa_cons (pe_ix (r := rIx K) ix_seq (pv 1) (pv 2) (fun _ _ => rfl)) pa_nil))))))
            (fun _ _ _ _ _ => pv 2))
          (pe_lst pa_nil) (nomark _)))))) pss_nil)
      (pss_cons (ps_if (PW.pt (pw_or (pt_cmpR op_isN (pv 1) pe_non (nomark _)) (pw_or1 (pt_val (pe_callB call_isi (by rfl) B.isinstance (by decide +kernel) (pa_cons (pv 1) (pa_cons (pe_bltn (v := .ty "str") (by rfl) B.str (by decide +kernel) rfl) pa_nil)))))))
        (pss_one (ps_ret (pe_and (pe_cmpR (op_eqD hr.units) (pv 0) (pv 1) (nomark _)) (pe_one (pe_cmpR op_eq (pe_callB call_isi (by rfl) B.isinstance (by decide +kernel) (pa_cons (pv 0) (pa_cons (pe_bltn (v := .ty "str") (by rfl) B.str (by decide +kernel) rfl) pa_nil))) (pe_callB call_isi (by rfl) B.isinstance (by decide +kernel) (pa_cons (pv 1) (pa_cons (pe_bltn (v := .ty "str") (by rfl) B.str (by decide +kernel) rfl) pa_nil))) (nomark _)))))) pss_nil)
      (pss_one (ps_ret (pe_and (pe_callB call_isi (by rfl) B.isinstance (by decide +kernel) (pa_cons (pv 0) (pa_cons (pe_bltn (v := .ty "int") (by rfl) B.int (by decide +kernel) rfl) pa_nil)))
        (pe_and (pe_cmpR op_eq (pe_callB call_isi (by rfl) B.isinstance (by decide +kernel) (pa_cons (pv 0) (pa_cons (pe_bltn (v := .ty "bool") (by rfl) B.bool (by decide +kernel) rfl) pa_nil))) (pe_callB call_isi (by rfl) B.isinstance (by decide +kernel) (pa_cons (pv 1) (pa_cons (pe_bltn (v := .ty "bool") (by rfl) B.bool (by decide +kernel) rfl) pa_nil))) (nomark _))
        (pe_one (pe_cmpR (op_eqD hr.units) (pv 0) (pv 1) (nomark _)))))))), ?_⟩
    have nde := Dp.nod he
    have ndd := Dp.nod hd
    have clsp : Paired ClsV [V.ty "tuple", V.ty "list"] [Value.type "tuple", Value.type "list"] := .cons (.ty _) (.cons (.ty _) .nil)
    refine ⟨_, rfl, (by show 2 ≤ sizeLine; decide), fun tp htp => ?_⟩
    have s1 : Same H (upd H tp (.tup [V.ty "tuple", V.ty "list"])) := Same.new htp
    refine ⟨y, tp, _, _, _, _, rfl, upd_same, clsp, Dp.ty (Dp.same s1 e y he), kit_seq nde, _, rfl, ?_⟩
    generalize upd H tp (.tup [V.ty "tuple", V.ty "list"]) = H1 at s1
    by_cases se : (isTup e || isLst e) = true
    · rw [se]
      refine iteT ?_
      -- not isinstance(found, (tuple, list)) or ..
      refine ⟨_, rfl, (by show 2 ≤ sizeLine; decide), fun tq htq => ?_⟩
      have s2 : Same H (upd H1 tq (.tup [V.ty "tuple", V.ty "list"])) := s1.trans (Same.new htq)
      refine ⟨x, tq, _, _, _, _, rfl, upd_same, clsp, Dp.ty (Dp.same s2 d x hd), kit_seq ndd, _, rfl, ?_⟩
      generalize upd H1 tq (.tup [V.ty "tuple", V.ty "list"]) = H2 at s2
      by_cases sd : (isTup d || isLst d) = true
      · rw [sd]
        refine iteF ?_
        refine ⟨_, rfl, x, _, _, _, _, rfl, .ty _, Dp.ty (Dp.same s2 d x hd), kit_lst ndd, _, rfl, y, _, _, _, _, rfl, .ty _, Dp.ty (Dp.same s2 e y he), kit_lst nde, rfl, _, rfl, ?_⟩
        by_cases sl : isLst d = isLst e
        · have hh : (!decide (V.bl (isLst d) = V.bl (isLst e))) = false := by rw [sl, decide_eq_true rfl]; rfl
          rw [hh]
          refine iteF ?_
          -- len(found) != len(due)
          obtain ⟨a1, xs1, rfl, q1, dx1⟩ := Dp.seq (Dp.same s2 d x hd) sd
          obtain ⟨a2, xs2, rfl, q2, dx2⟩ := Dp.seq (Dp.same s2 e y he) se
          refine ⟨_, rfl, a1, xs1, rfl, q1, _, rfl, a2, xs2, rfl, q2, rfl, _, rfl, ?_⟩
          rw [DpAll.len dx1, DpAll.len dx2]
          by_cases ll : (its d).length = (its e).length
          · have hh2 : (!decide (V.int ((its d).length : Int) = V.int ((its e).length : Int))) = false := by rw [ll, decide_eq_true rfl]; rfl
            rw [hh2]
            refine iteF ?_
            have hlen : (its e).length ≤ 100000 := by
              match e, se, pe with
              | .list es, _, pe => cases n <;> first | exact pe.elim | exact pe.1
              | .tuple es, _, pe => cases n <;> first | exact pe.elim | exact pe.1
            have hn0 : n ≠ 0 := by
              intro z
              subst z
              match e, se, pe with
              | .list es, _, pe => exact pe
              | .tuple es, _, pe => exact pe
            have ite : ∀ z, z ∈ its e → Pl (n - 1) z := by
              match e, se, pe with
              | .list es, _, pe => cases n <;> first | exact pe.elim | exact pe.2
              | .tuple es, _, pe => cases n <;> first | exact pe.elim | exact pe.2
            have itd : ∀ z, z ∈ its d → Pl 20 z := by
              match d, sd, pd with
              | .list es, _, pd => exact fun z hz => Pl.succ _ _ (pd.2 z hz)
              | .tuple es, _, pd => exact fun z hz => Pl.succ _ _ (pd.2 z hz)
            refine ⟨_, rfl, a2, xs2, rfl, q2, _, rfl, by omega, by rw [DpAll.len dx2]; omega, fun Dl hD => ?_⟩
            have hDH : H2 Dl = none := hD
            refine lc_range (lo := 0) (n := xs2.length) (fun i H3 => ∃ ks : List Nat, H3 Dl = some (.lst (bV ks)) ∧ Same H2 H3 ∧ ks.length ≤ i ∧ ∀ k, k ∈ ks ↔ k < i ∧ (its d)[k]? ≠ (its e)[k]?) ?_ ?_ ?_
            · exact ⟨[], upd_same, Same.new hD, Nat.le_refl _, fun k => ⟨(fun z => nomatch z), fun z => absurd z.1 (Nat.not_lt_zero _)⟩⟩
            · rintro i H3 hi ⟨ks, hks, s3, hl, hk⟩
              rw [DpAll.len dx2] at hi
              obtain ⟨x1, g1, p1⟩ := DpAll.get (i := i) dx1 (by omega)
              obtain ⟨x2, g2, p2⟩ := DpAll.get (i := i) dx2 hi
              have w1 : (SqL K H3 a1 xs1 ∨ SqT K H3 a1 xs1) := q1.elim (fun z => .inl (s3.seq z)) fun z => .inr (Same.seqT s3 z)
              have w2 : (SqL K H3 a2 xs2 ∨ SqT K H3 a2 xs2) := q2.elim (fun z => .inl (s3.seq z)) fun z => .inr (Same.seqT s3 z)
              have at1 : atI xs1 (0 + (i : Int)) = some x1 := at_of (j := i) (by omega) g1
              have at2 : atI xs2 (0 + (i : Int)) = some x2 := at_of (j := i) (by omega) g2
              refine ⟨rfl, ?_⟩
              refine ⟨_, rfl, _, rfl, ?_⟩
              have step : ∀ {Q : V → Hp → Prop} {a : Addr} {xs : List V} {v : V}, (SqL K H3 a xs ∨ SqT K H3 a xs) → atI xs (0 + (i : Int)) = some v → Q v H3 → rIx K (.ref a) (.int (0 + (i : Int))) H3 Q := fun w g z => by
                rcases w with w | w
                · exact .inl ⟨_, _, _, _, rfl, rfl, w, g, z⟩
                · exact .inr (.inl ⟨_, _, _, _, rfl, rfl, w, g, z⟩)
              refine step w1 at1 ?_
              refine ⟨_, rfl, _, rfl, ?_⟩
              refine step w2 at2 ?_
              refine I0 _ _ _ _ hn0 ⟨x1, x2, _, _, rfl, Dp.same s3 _ _ p1, Dp.same s3 _ _ p2, itd _ (List.getElem_mem _), ite _ (List.getElem_mem _), fun b H4 hb s4 => ?_⟩
              have gd : (its d)[i]? = some ((its d)[i]'(by omega)) := List.getElem?_eq_getElem (by omega)
              have ge : (its e)[i]? = some (its e)[i] := List.getElem?_eq_getElem hi
              refine ⟨b, rfl, ?_⟩
              cases b with
              | true =>
                refine iteF ?_
                have eq := hb.mp rfl
                refine ⟨ks, s4 _ _ hks, s3.trans s4, Nat.le_succ_of_le hl, fun k => ?_⟩
                rw [hk k]
                constructor
                · rintro ⟨z1, z2⟩
                  exact ⟨Nat.lt_succ_of_lt z1, z2⟩
                · rintro ⟨z1, z2⟩
                  refine ⟨?_, z2⟩
                  rcases Nat.lt_succ_iff_lt_or_eq.mp z1 with z | z
                  · exact z
                  · subst z
                    exact absurd (by rw [gd, ge, eq]) z2
              | false =>
                refine iteT ?_
                have neq : (its d)[i]'(by omega) ≠ (its e)[i] := fun z => by cases (hb.mpr z)
                refine ⟨_, rfl, bV ks, s4 _ _ hks, ?_, ks ++ [i], ?_, ?_, ?_, fun k => ?_⟩
                · rw [bV_len]
                  exact Nat.lt_of_le_of_lt hl (Nat.lt_of_lt_of_le hi (Nat.le_trans hlen (by decide)))
                · rw [upd_same, bV_app, show (0 : Int) + (i : Int) = (i : Int) by omega]
                · exact fun c o z => by
                    rw [upd_ne (ne_of_none z hDH)]
                    exact (s3.trans s4) c o z
                · rw [List.length_append]
                  exact Nat.succ_le_succ hl
                · rw [List.mem_append, hk k]
                  constructor
                  · rintro (⟨z1, z2⟩ | z)
                    · exact ⟨Nat.lt_succ_of_lt z1, z2⟩
                    · have : k = i := by simpa using z
                      subst this
                      exact ⟨Nat.lt_succ_self _, fun z => neq (Option.some.inj (gd.symm.trans (z.trans ge)))⟩
                  · rintro ⟨z1, z2⟩
                    rcases Nat.lt_succ_iff_lt_or_eq.mp z1 with z | z
                    · exact .inl ⟨z, z2⟩
                    · exact .inr (by simp [z])
            · rintro H3 ⟨ks, hks, s3, hl, hk⟩
              rw [DpAll.len dx2] at hk
              refine ⟨Nat.zero_le _, fun p hp => ?_⟩
              have s5 : Same H3 (upd H3 p (.lst [])) := Same.new hp
              have dpi : ∀ (zs : List Nat) (Hx : Hp), DpAll K Hx (bV zs) (zs.map fun (z : Nat) => PyData.int (z : Int)) := by
                intro zs Hx
                induction zs with
                | nil => exact .nil
                | cons z zs ih => exact .cons (.int _) ih
              have pli : Pl 1 (.list (ks.map fun (z : Nat) => PyData.int (z : Int))) := ⟨by rw [List.length_map]; exact Nat.le_trans hl (by rw [DpAll.len dx2]; exact hlen), fun z hz => by
                obtain ⟨m, _, rfl⟩ := List.mem_map.mp hz
                exact True.intro⟩
              refine ⟨.list (ks.map fun (z : Nat) => PyData.int (z : Int)), .list [], .lst (SqL.of (s5 _ _ hks)) (dpi _ _), .lst (SqL.of upd_same) .nil, pli.shaped (by decide), rfl, ?_⟩
              refine q _ _ ?_ ((s2.trans s3).trans s5)
              rw [its_eq sd se sl, ← differ_at (n := (its e).length) ll rfl hk]
              cases ks with
              | nil => exact ⟨fun _ => rfl, fun _ => by simp [PyData.eqv, PyData.eqvAll]⟩
              | cons k ks => exact ⟨fun z => by simp [PyData.eqv, PyData.eqvAll] at z, fun z => by cases z⟩
          · have hh2 : (!decide (V.int ((its d).length : Int) = V.int ((its e).length : Int))) = true := by
              rw [decide_eq_false (fun z => ll (by injection z with z; omega))]; rfl
            rw [hh2]
            refine iteT ?_
            exact q false H2 ⟨(fun z => nomatch z), fun z => absurd (by rw [z]) ll⟩ s2
        · have hh : (!decide (V.bl (isLst d) = V.bl (isLst e))) = true := by
            rw [decide_eq_false (fun z => sl (by injection z))]; rfl
          rw [hh]
          refine iteT ?_
          exact q false H2 ⟨(fun z => nomatch z), fun z => absurd (by rw [z]) sl⟩ s2
      · rw [Bool.not_eq_true] at sd
        rw [sd]
        refine iteT ?_
        refine iteT ?_
        exact q false H2 ⟨(fun z => nomatch z), fun z => by rw [z, se] at sd; cases sd⟩ s2
    · rw [Bool.not_eq_true] at se
      rw [se]
      refine iteF ?_
      have s2 := s1
      have shd := pd.shaped (by decide)
      have she := pe.shaped (by omega)
      have hy : decide (y = V.non) = isNo e := by cases he <;> simp [isNo]
      have hstr : (isNo e || isSt e) = true → Q (V.bl (decide (V.bl (isSt d) = V.bl (isSt e)) && PyData.eqv d e)) H1 := fun z => by
        refine q _ _ ?_ s2
        match e, z with
        | .none, _ => cases d <;> simp [PyData.eqv, isSt]
        | .str _, _ => cases d <;> simp [PyData.eqv, isSt]
      have fin1 : (isNo e || isSt e) = true → (∃ c, V.bl (PyData.eqv d e) = V.bl c ∧ if c = true then tCB (rIsi K) (tCons (tVar 0) (tCons (tC (.ty "str")) tNil)) [some x, some y, none] H1 (fun u H2 => tCB (rIsi K) (tCons (tVar 1) (tCons (tC (.ty "str")) tNil)) [some x, some y, none] H2 fun v H3 => rEq u v H3 Q) else Q (.bl false) H1) := fun z => by
        have h1 := hstr z
        refine ⟨_, rfl, ?_⟩
        cases hv : PyData.eqv d e with
        | true =>
          refine iteT ?_
          rw [hv, Bool.and_true] at h1
          exact ⟨_, rfl, x, _, _, _, _, rfl, .ty _, Dp.ty (Dp.same s2 d x hd), kit_str ndd, _, rfl, y, _, _, _, _, rfl, .ty _, Dp.ty (Dp.same s2 e y he), kit_str nde, rfl, h1⟩
        | false =>
          refine iteF ?_
          rw [hv, Bool.and_false] at h1
          exact h1
      -- if due is None or isinstance(due, str)
      refine ⟨_, rfl, rfl, _, rfl, ?_⟩
      rw [hy]
      by_cases no : isNo e = true
      · rw [no]
        refine iteT ?_
        refine iteT ?_
        exact ⟨_, rfl, _, rfl, d, e, Dp.same s2 d x hd, Dp.same s2 e y he, shd, she, fin1 (by rw [no]; rfl)⟩
      · rw [Bool.not_eq_true] at no
        rw [no]
        refine iteF ?_
        refine ⟨_, rfl, y, _, _, _, _, rfl, .ty _, Dp.ty (Dp.same s2 e y he), kit_str nde, _, rfl, ?_⟩
        by_cases st : isSt e = true
        · rw [st]
          refine iteT ?_
          exact ⟨_, rfl, _, rfl, d, e, Dp.same s2 d x hd, Dp.same s2 e y he, shd, she, fin1 (by rw [st, Bool.or_true])⟩
        · rw [Bool.not_eq_true] at st
          rw [st]
          refine iteF ?_
          -- isinstance(found, int) and ..
          have ine : isIn e = true := by
            match e, se, no, st, nde with
            | .bool _, _, _, _, _ => rfl
            | .int _, _, _, _, _ => rfl
            | .dict kv, _, _, _, nde => exact absurd rfl (nde kv)
          refine ⟨_, rfl, x, _, _, _, _, rfl, .ty _, Dp.ty (Dp.same s2 d x hd), kit_int ndd, _, rfl, ?_⟩
          by_cases ind : isIn d = true
          · rw [ind]
            refine iteT ?_
            refine ⟨_, rfl, x, _, _, _, _, rfl, .ty _, Dp.ty (Dp.same s2 d x hd), kit_bool ndd, _, rfl, y, _, _, _, _, rfl, .ty _, Dp.ty (Dp.same s2 e y he), kit_bool nde, rfl, _, rfl, ?_⟩
            by_cases bb : isBo d = isBo e
            · rw [decide_eq_true (show V.bl (isBo d) = V.bl (isBo e) by rw [bb])]
              refine iteT ?_
              refine ⟨_, rfl, _, rfl, d, e, Dp.same s2 d x hd, Dp.same s2 e y he, shd, she, ?_⟩
              exact q _ _ (eqv_atom ndd se bb) s2
            · rw [decide_eq_false (show ¬ V.bl (isBo d) = V.bl (isBo e) from fun z => bb (by injection z))]
              refine iteF ?_
              exact q false H1 ⟨(fun z => nomatch z), fun z => absurd (by rw [z]) bb⟩ s2
          · rw [Bool.not_eq_true] at ind
            rw [ind]
            refine iteF ?_
            exact q false H1 ⟨(fun z => nomatch z), fun z => by rw [z, ine] at ind; cases ind⟩ s2
/-- alike at every depth to 20 -/
theorem ok_alike {f : Addr} {fd : FuncData} (D : Dfn K mg "_law_alike" s_law_alike p_law_alike f fd) (B : Bi mg) : ∀ n, n ≤ 20 → FnOk P w K mg base CX0 (n + 2) f fd p_law_alike (spAlike K n)
  | 0, hn => ok_alike_step hn D B ⟨fun _ _ _ _ => False, by
      obtain ⟨oc, od, kV, doc, pm, an, cdv, ct, osl, rfl, lk, hcd⟩ := D.F.ex
      exact D.F.ok (k := 0) sc_law_alike (fun vs H Q E h => h.elim) (fun cdv A outer s H vs Q E hr h => h.elim), fun vs H Q E h => absurd rfl h⟩
  | n + 1, hn => ok_alike_step hn D B ⟨spAlike K n, ok_alike D B n (by omega), fun vs H Q E _ h => h⟩
end
section
/-- bytes as data -/
def dI (l : List Nat) : List PyData := l.map fun (n : Nat) => PyData.int (n : Int)
theorem dI_all (K : PySem.W.Frag) (H : Hp) : ∀ l : List Nat, DpAll K H (bV l) (dI l)
  | [] => .nil
  | n :: l => .cons (.int _) (dI_all K H l)
theorem dI_pl {l : List Nat} (h : l.length ≤ 100000) : Pl 1 (.tuple (dI l)) := ⟨by unfold dI; rw [List.length_map]; exact h, fun z hz => by
  obtain ⟨m, _, rfl⟩ := List.mem_map.mp hz
  exact True.intro⟩
theorem dI_plL {l : List Nat} (h : l.length ≤ 100000) : Pl 1 (.list (dI l)) := ⟨by unfold dI; rw [List.length_map]; exact h, fun z hz => by
  obtain ⟨m, _, rfl⟩ := List.mem_map.mp hz
  exact True.intro⟩
theorem dI_inj : ∀ {l m : List Nat}, dI l = dI m → l = m
  | [], [], _ => rfl
  | [], _ :: _, h => by cases h
  | _ :: _, [], h => by cases h
  | a :: l, b :: m, h => by
    have h' : PyData.int (a : Int) :: dI l = PyData.int (b : Int) :: dI m := h
    injection h' with h1 h2
    injection h1 with h1
    rw [dI_inj h2, show a = b by omega]
theorem dI_eqvAll : ∀ l m : List Nat, PyData.eqvAll (dI l) (dI m) = decide (l = m)
  | [], [] => by simp [dI, PyData.eqvAll]
  | [], _ :: _ => by simp [dI, PyData.eqvAll]
  | _ :: _, [] => by simp [dI, PyData.eqvAll]
  | a :: l, b :: m => by
    have ih := dI_eqvAll l m
    show PyData.eqvAll (PyData.int (a : Int) :: dI l) (PyData.int (b : Int) :: dI m) = _
    simp only [PyData.eqvAll, PyData.eqv]
    rw [ih]
    by_cases h1 : a = b
    · subst h1
      simp
    · have : ¬ ((a : Int) = (b : Int)) := by omega
      simp [h1, this]
end
/-! ### the program: counts -/
abbrev sis_between : Stmt := top 4
abbrev nis_between : List Str := ["value", "least", "most"]
abbrev pis_between : List Str := ["value", "least", "most"]
theorem scis_between : FnScope nis_between pis_between (defScope sis_between) := ⟨rfl, rfl, rfl, by decide +kernel, rfl, by decide +kernel, by decide +kernel⟩
def spBtw : Sp := fun vs H Q _ => ∃ (v a b : Int), vs = [.int v, .int a, .int b] ∧ Q (.bl (decide (a ≤ v ∧ v ≤ b))) H
section
variable {P : Program} {w : World} {K : PySem.W.Frag} {mg : Str → Option Value} {base : Heap}
theorem ok_btw {f : Addr} {fd : FuncData} (D : Dfn K mg "is_between" sis_between pis_between f fd) (B : Bi mg) : FnOk P w K mg base CX0 1 f fd pis_between spBtw := by
  have nd := scis_between.nd
  refine D.F.ok scis_between (fun vs H Q E h => ?_) (fun cdv A outer s H vs Q E hr h => ?_)
  · obtain ⟨v, a, b, rfl, _⟩ := h
    rfl
  · obtain ⟨v, a, b, rfl, q⟩ := h
    refine ⟨_, pss_one (ps_ret (pe_and (pe_cmpR op_isTyB (pe_callTy call_type1 (by rfl) B.type (by decide +kernel) (pa_cons (pv 0) pa_nil)) (pe_bltn (v := .ty "int") (by rfl) B.int (by decide +kernel) rfl) (nomark _))
      (pe_one (pe_chain op_le op_le (pv 1) (pv 0) (pv 2))))), ?_⟩
    refine ⟨_, rfl, _, "int", rfl, .int _, _, _, rfl, rfl, _, rfl, ?_⟩
    refine iteT ?_
    refine ⟨_, rfl, _, rfl, _, _, rfl, rfl, _, rfl, ?_⟩
    by_cases h1 : a ≤ v
    · rw [decide_eq_true h1]
      refine iteT ?_
      refine ⟨_, rfl, _, _, rfl, rfl, ?_⟩
      have e : decide (v ≤ b) = decide (a ≤ v ∧ v ≤ b) := by
        rw [decide_eq_decide]
        exact ⟨fun h => ⟨h1, h⟩, fun h => h.2⟩
      show Q (V.bl (decide (v ≤ b))) H
      rw [e]
      exact q
    · rw [decide_eq_false h1]
      refine iteF ?_
      have e : decide (a ≤ v ∧ v ≤ b) = false := decide_eq_false fun h => h1 h.1
      rw [e] at q
      exact q
end
end K07
namespace K07
open PySem L2 Pg RZ
/-! ### the program: numbers of the prime -/
abbrev PR : Int := 2305843009213693951
structure TP (mg : Str → Option Value) : Prop where
  pr : ∃ t, mg "PRIME" = some (.int 2305843009213693951 t)
  mr : ∃ t, mg "MOST_ROOTS" = some (.int 60 t)
  en : mg "enumerate" = none
  rev : mg "reversed" = none
  so : mg "sorted" = none
theorem gcd_one {n : Nat} (h0 : 0 < n) (h : n < 2305843009213693951) : Nat.gcd 2305843009213693951 n = 1 := by
  have e : n * n ^ (Pr.P - 2) % 2305843009213693951 = 1 := Pr.mul_inv (x := n) (by show n % 2305843009213693951 ≠ 0; omega)
  generalize n ^ (Pr.P - 2) = m at e
  have hd1 : Nat.gcd 2305843009213693951 n ∣ 2305843009213693951 := Nat.gcd_dvd_left _ _
  have hd2 : Nat.gcd 2305843009213693951 n ∣ n * m := Nat.dvd_trans (Nat.gcd_dvd_right _ _) (Nat.dvd_mul_right _ _)
  have h3 := (Nat.dvd_mod_iff hd1).mpr hd2
  rw [e] at h3
  exact Nat.dvd_one.mp h3
structure Eu (n hi lo : Nat) (oh ol : Int) : Prop where
  a : c oh * c (n : Nat) = c (hi : Nat)
  b : c ol * c (n : Nat) = c (lo : Nat)
  g : Nat.gcd hi lo = 1
  s : ∃ u v : Nat, u * hi + v * lo = 2305843009213693951 ∧ ((ol = u ∧ oh = -(v : Int)) ∨ (ol = -(u : Int) ∧ oh = v))
  h0 : 0 < hi
  hP : hi ≤ 2305843009213693951
  hl : lo ≤ hi
theorem Eu.start {n : Nat} (h0 : 0 < n) (h : n < 2305843009213693951) : Eu n 2305843009213693951 n 0 1 where
  a := by
    rw [c_zero, show c ((2305843009213693951 : Nat) : Int) = 0 from rfl]
    exact Lean.Grind.Semiring.zero_mul _
  b := by
    rw [c_one]
    exact Lean.Grind.Semiring.one_mul _
  g := gcd_one h0 h
  s := ⟨1, 0, by omega, .inl ⟨rfl, rfl⟩⟩
  h0 := by decide
  hP := Nat.le_refl _
  hl := Nat.le_of_lt h
theorem lin {R : Type} [Po.Fd R] (a b m n h l : R) (e1 : a * n = h) (e2 : b * n = l) : (a - m * b) * n = h - m * l := by grind
theorem Eu.next {n hi lo : Nat} {oh ol : Int} (E : Eu n hi lo oh ol) (h : 0 < lo) : Eu n lo (hi % lo) ol (oh - ((hi / lo : Nat) : Int) * ol) where
  a := E.b
  b := by
    rw [c_sub, c_mul, lin _ _ _ _ _ _ E.a E.b, ← c_mul, ← c_sub]
    congr 1
    have := Nat.div_add_mod hi lo
    rw [Int.mul_comm]
    omega
  g := by
    rw [Nat.gcd_comm, ← Nat.gcd_rec, Nat.gcd_comm]
    exact E.g
  s := by
    obtain ⟨u, v, e, hs⟩ := E.s
    refine ⟨v + hi / lo * u, u, ?_, ?_⟩
    · rw [← e, Nat.add_mul, Nat.add_comm (u * hi), Nat.add_assoc]
      congr 1
      have := Nat.div_add_mod hi lo
      conv => rhs; rw [← this, Nat.mul_add]
      congr 1
      rw [Nat.mul_right_comm, Nat.mul_comm u, Nat.mul_comm lo]
    · rcases hs with ⟨rfl, rfl⟩ | ⟨rfl, rfl⟩
      · refine .inr ⟨?_, rfl⟩
        rw [Int.natCast_add, Int.natCast_mul, Int.neg_add]
        omega
      · refine .inl ⟨?_, rfl⟩
        rw [Int.natCast_add, Int.natCast_mul, Int.mul_neg]
        omega
  h0 := h
  hP := Nat.le_trans E.hl E.hP
  hl := Nat.le_of_lt (Nat.mod_lt _ h)
theorem Eu.bd {n hi lo : Nat} {oh ol : Int} (E : Eu n hi lo oh ol) : ol.natAbs < 2 ^ 62 := by
  obtain ⟨u, v, e, hs⟩ := E.s
  have h1 : u * 1 ≤ u * hi := Nat.mul_le_mul_left u E.h0
  omega
abbrev sinverse : Stmt := top 13
abbrev ninverse : List Str := ["number", "high", "low", "of_high", "of_low", "many"]
abbrev pinverse : List Str := ["number"]
theorem scinverse : FnScope ninverse pinverse (defScope sinverse) := ⟨rfl, rfl, rfl, by decide +kernel, rfl, by decide +kernel, by decide +kernel⟩
def spInv : Sp := fun vs H Q _ => ∃ (n : Nat), vs = [.int n] ∧ 0 < n ∧ n < 2305843009213693951 ∧ ∀ (r : Nat) (H' : Hp), r < 2305843009213693951 → c (r : Nat) * c (n : Nat) = 1 → Same H H' → Q (.int r) H'
section
variable {P : Program} {w : World} {K : PySem.W.Frag} {mg : Str → Option Value} {base : Heap}
theorem ok_inv {f : Addr} {fd : FuncData} (D : Dfn K mg "inverse" sinverse pinverse f fd) (T : TP mg) : FnOk P w K mg base CX0 1 f fd pinverse spInv := by
  have nd := scinverse.nd
  obtain ⟨tp, hp⟩ := T.pr
  refine D.F.ok scinverse (fun vs H Q E h => ?_) (fun cdv A outer s H vs Q E hr h => ?_)
  · obtain ⟨n, rfl, _⟩ := h
    rfl
  · obtain ⟨n, rfl, h0, h1, q⟩ := h
    refine ⟨_, pss_cons (ps_par (i := 1) (j := 2) (by rfl) nd rfl rfl (by decide) rfl rfl (pa_cons (pe_glob (v := .int 2305843009213693951) rfl hp ⟨_, rfl⟩) (pa_cons (pv 0) pa_nil)) (by rfl))
      (pss_cons (ps_asg (g := gTup K 2 (gCons (gName 3) (gCons (gName 4) gNil))) (pe_tup (pa_cons pe_int (pa_cons pe_int pa_nil))) (by exact pg_tup rfl (pgs_cons (pg_name (i := 3) nd rfl (.inl rfl)) (pgs_cons (pg_name (i := 4) nd rfl (.inl rfl)) pgs_nil))))
      (pss_cons (ps_while PassesOwn.never (pt_cmpR op_gt (pv 2) pe_int (nomark _))
        (pss_cons (ps_set (i := 5) nd rfl (.inl rfl) (pe_op op_fdivW (pv 1) (pv 2)))
        (pss_cons (ps_par (i := 1) (j := 2) (by rfl) nd rfl rfl (by decide) rfl rfl (pa_cons (pv 2) (pa_cons (pe_op op_sub (pv 1) (pe_op op_mulW (pv 5) (pv 2))) pa_nil)) (by rfl))
        (pss_one (ps_par (i := 3) (j := 4) (by rfl) nd rfl rfl (by decide) rfl rfl (pa_cons (pv 4) (pa_cons (pe_op op_sub (pv 3) (pe_op op_mulW (pv 5) (pv 4))) pa_nil)) (by rfl))))))
      (pss_one (ps_ret (pe_op op_mod (pv 3) (pe_glob (v := .int 2305843009213693951) rfl hp ⟨_, rfl⟩)))))), ?_⟩
    refine ⟨_, rfl, _, _, rfl, ?_⟩
    refine ⟨by decide, fun tp0 ntp => ⟨tp0, _, rfl, SqT.of upd_same, rfl, _, _, rfl, _, _, rfl, rfl, ?_⟩⟩
    have st : Same H (upd H tp0 (.tup [.int 0, .int 1])) := Same.new ntp
    generalize upd H tp0 (.tup [.int 0, .int 1]) = H0 at st
    refine ⟨fun m σ H1 => ∃ (hi lo : Nat) (oh ol : Int) (v5 : Option V), m = lo ∧ σ = [some (.int n), some (.int hi), some (.int lo), some (.int oh), some (.int ol), v5] ∧ H1 = H0 ∧ Eu n hi lo oh ol, ⟨n, 2305843009213693951, n, 0, 1, none, rfl, rfl, rfl, Eu.start h0 h1⟩, ?_⟩
    rintro m σ H1 ⟨hi, lo, oh, ol, v5, rfl, rfl, rfl, U⟩
    refine ⟨_, rfl, _, _, rfl, rfl, _, rfl, ?_⟩
    have hP := U.hP
    have hl := U.hl
    by_cases hz : 0 < m
    · rw [decide_eq_true (show (0 : Int) < (m : Int) by omega)]
      refine iteT ?_
      have U2 := U.next hz
      have ed : (hi : Int) / (m : Int) = ((hi / m : Nat) : Int) := (Int.natCast_ediv hi m).symm
      have hq : hi / m ≤ hi := Nat.div_le_self _ _
      have hq2 : ((hi / m : Nat) : Int).natAbs < 2 ^ 62 := by
        rw [Int.natAbs_natCast]
        exact Nat.lt_of_le_of_lt hq (Nat.lt_of_le_of_lt hP (by decide))
      have em : (hi : Int) - ((hi / m : Nat) : Int) * (m : Int) = ((hi % m : Nat) : Int) := by
        have := Nat.div_add_mod hi m
        rw [← Int.natCast_mul, Nat.mul_comm]
        omega
      refine ⟨fun σ' H' => ∃ (hi lo : Nat) (oh ol : Int) (v5 : Option V), lo < m ∧ σ' = [some (.int n), some (.int hi), some (.int lo), some (.int oh), some (.int ol), v5] ∧ H' = H1 ∧ Eu n hi lo oh ol, fun σ' H' ⟨hi, lo, oh, ol, v5, l, a, b, d⟩ => ⟨lo, l, hi, lo, oh, ol, v5, rfl, a, b, d⟩, ?_⟩
      refine ⟨_, rfl, _, rfl, _, _, rfl, rfl, wide_div (b := 62) (by omega) (by omega) (by decide) (by decide), ?_⟩
      refine ⟨_, rfl, _, rfl, _, rfl, _, rfl, _, _, rfl, rfl, wide_mul (a := 62) (b := 62) (by rw [ed]; exact hq2) (by omega) (by decide) (by decide) (by decide), _, _, rfl, rfl, _, _, rfl, ?_⟩
      refine ⟨_, rfl, _, rfl, _, rfl, _, rfl, _, _, rfl, rfl, wide_mul (a := 62) (b := 62) (by rw [ed]; exact hq2) U.bd (by decide) (by decide) (by decide), _, _, rfl, rfl, _, _, rfl, ?_⟩
      refine ⟨m, hi % m, ol, oh - ((hi / m : Nat) : Int) * ol, some (.int ((hi / m : Nat) : Int)), Nat.mod_lt _ hz, ?_, rfl, U2⟩
      show [_, _, some (V.int ((hi : Int) - (hi : Int) / (m : Int) * (m : Int))), _, some (V.int (oh - (hi : Int) / (m : Int) * ol)), some (V.int ((hi : Int) / (m : Int)))] = _
      rw [ed, em]
    · rw [decide_eq_false (show ¬ (0 : Int) < (m : Int) by omega)]
      refine iteF ?_
      obtain rfl : m = 0 := by omega
      have h1' : hi = 1 := by
        have := U.g
        rw [Nat.gcd_zero_right] at this
        exact this
      subst h1'
      refine ⟨_, rfl, _, _, rfl, rfl, (by show (0 : Int) < 2305843009213693951; decide), ?_⟩
      show Q (V.int (oh % 2305843009213693951)) H1
      rw [← md_int]
      refine q (md oh) _ (md_lt _) ?_ st
      rw [c_md]
      exact U.a
end
end K07
namespace K07
open PySem L2 Pg RZ
/-! ### the program: trimmed, poly_scaled -/
theorem pcut_to (l : List Nat) (k : Nat) : cutV (bV l) none (some (k : Int)) = bV (l.take k) := by
  unfold cutV
  rw [HT.sIx_none, HT.sIx_nat, List.drop_zero, Nat.sub_zero, bV_len]
  unfold bV
  rw [← List.map_take]
  congr 1
  rw [← List.take_eq_take_min]
theorem for_revT {K : PySem.W.Frag} {a : Addr} {xs : List V} {g : TG} {tb : TS} {D : Ends} {σ : L2.St} {H : Hp} (Pv : Nat → L2.St → Hp → Prop) (h0 : Pv 0 σ H) (hq : ∀ i σ H, Pv i σ H → SqT K H a xs)
    (hs : ∀ (i : Nat) (x : V) (σ : L2.St) (H : Hp), i < xs.length → xs[xs.length - 1 - i]? = some x → Pv i σ H → g x σ H fun σ2 H2 => tb { D with nx := Pv (i + 1), ct := Pv (i + 1), bk := D.nx } σ2 H2) (hd : ∀ σ H, Pv xs.length σ H → D.nx σ H) :
    ∃ W : Nat → Nat → L2.St → Hp → Prop, (∃ m, W 0 m σ H) ∧ ∀ i m σ H, W i m σ H →
      ((RT.ItvT K a xs.length).stop i H ∧ D.nx σ H) ∨ ((RT.ItvT K a xs.length).go i H ∧ ∃ N : L2.St → Hp → Prop, (∀ σ' H', N σ' H' → ∃ m', m' < m ∧ W (i + 1) m' σ' H') ∧ ∀ v H', (RT.ItvT K a xs.length).yld i H v H' → g v σ H' fun σ2 H2 => tb { D with nx := N, ct := N, bk := D.nx } σ2 H2) := by
  refine ⟨fun i m σ H => m = xs.length - i ∧ i ≤ xs.length ∧ Pv i σ H, ⟨xs.length, rfl, Nat.zero_le _, h0⟩, ?_⟩
  rintro i m σ H ⟨rfl, hi, p⟩
  have hp := hq i σ H p
  by_cases hlt : i < xs.length
  · have hl2 : xs.length - 1 - i < xs.length := by omega
    refine .inr ⟨⟨hlt, xs, xs[xs.length - 1 - i], hp, List.getElem?_eq_getElem hl2⟩, Pv (i + 1), fun σ' H' p' => ⟨xs.length - (i + 1), by omega, rfl, hlt, p'⟩, fun v H' y => ?_⟩
    obtain ⟨rfl, hx⟩ := y
    exact hs i v σ _ hlt (hx xs hp) p
  · obtain rfl : i = xs.length := by omega
    exact .inl ⟨Nat.le_refl _, hd σ H p⟩
abbrev strimmed : Stmt := top 14
abbrev ntrimmed : List Str := ["numbers", "many"]
abbrev ptrimmed : List Str := ["numbers"]
theorem sctrimmed : FnScope ntrimmed ptrimmed (defScope strimmed) := ⟨rfl, rfl, rfl, by decide +kernel, rfl, by decide +kernel, by decide +kernel⟩
/-- cut behind its last number that is not 0 -/
def Trm (l t : List Nat) : Prop := ∃ m, m ≤ l.length ∧ t = l.take m ∧ (m = 0 ∨ l.getD (m - 1) 0 ≠ 0) ∧ ∀ j, m ≤ j → l.getD j 0 = 0
def spTrm (K : PySem.W.Frag) : Sp := fun vs H Q _ => ∃ (a : Addr) (l : List Nat), vs = [.ref a] ∧ SqL K H a (bV l) ∧ l.length ≤ 10000 ∧ ∀ (t : List Nat) (p : Addr) (H' : Hp), Trm l t → Same H H' → H p = none → H' p = some (.tup (bV t)) → Q (.ref p) H'
theorem hor_lt (x : Nat) : ∀ l, hor x l < 2305843009213693951
  | [] => by show 0 < 2305843009213693951; omega
  | _ :: _ => md_lt _
abbrev spoly_scaled : Stmt := top 16
abbrev npoly_scaled : List Str := ["poly", "factor", "number"]
abbrev ppoly_scaled : List Str := ["poly", "factor"]
theorem scpoly_scaled : FnScope npoly_scaled ppoly_scaled (defScope spoly_scaled) := ⟨rfl, rfl, rfl, by decide +kernel, rfl, by decide +kernel, by decide +kernel⟩
def scl (f : Nat) (l : List Nat) : List Nat := l.map fun n => md ((n : Nat) * (f : Nat))
def spScl (K : PySem.W.Frag) : Sp := fun vs H Q _ => ∃ (a : Addr) (l : List Nat) (f : Nat), vs = [.ref a, .int f] ∧ SqT K H a (bV l) ∧ Pm l ∧ f < 2305843009213693951 ∧ l.length ≤ 10000 ∧ ∀ (p : Addr) (H' : Hp), Same H H' → H p = none → H' p = some (.tup (bV (scl f l))) → Q (.ref p) H'
section
variable {P : Program} {w : World} {K : PySem.W.Frag} {mg : Str → Option Value} {base : Heap}
theorem ok_trm {f : Addr} {fd : FuncData} (D : Dfn K mg "trimmed" strimmed ptrimmed f fd) (B : Bi mg) : FnOk P w K mg base CX0 1 f fd ptrimmed (spTrm K) := by
  have nd := sctrimmed.nd
  refine D.F.ok sctrimmed (fun vs H Q E h => ?_) (fun cdv A outer s H vs Q E hr h => ?_)
  · obtain ⟨a, l, rfl, _⟩ := h
    rfl
  · obtain ⟨a, l, rfl, hs, hl, q⟩ := h
    refine ⟨_, pss_cons (ps_set (i := 1) nd rfl (.inl rfl) (pe_callB call_len_seq (by rfl) B.len PySem.boot_len (pa_cons (pv 0) pa_nil)))
      (pss_cons (ps_while PassesOwn.never (PW.pt (pw_and (pt_cmpR op_gt (pv 1) pe_int (nomark _)) (pw_and1 (pt_cmpR op_eq (pe_ix ix_list (pv 0) (pe_op op_sub (pv 1) pe_int) (fun _ _ => rfl)) pe_int (nomark _)))))
        (pss_one (ps_aug (i := 1) nd rfl (.inl rfl) pe_int (fun pins s σ H x y v u Q I r1 r2 h => iop_sub pins s σ H x y v u Q I r1 r2 h))))
      (pss_one (ps_ret (pe_callTy call_tuple_of (by rfl) B.tuple (by decide +kernel) (pa_cons (pe_slice sl_list (pv 0) po_none (po_some (pv 1))) pa_nil))))), ?_⟩
    refine ⟨_, rfl, a, _, rfl, .inl hs, ?_⟩
    refine ⟨fun m σ H1 => ∃ k : Nat, m = k ∧ σ = [some (.ref a), some (.int k)] ∧ H1 = H ∧ k ≤ l.length ∧ ∀ j, k ≤ j → l.getD j 0 = 0, ⟨l.length, l.length, rfl, by rw [bV_len]; rfl, rfl, Nat.le_refl _, fun j hj => by rw [List.getD_eq_getElem?_getD, List.getElem?_eq_none hj]; rfl⟩, ?_⟩
    rintro m σ H1 ⟨k, rfl, rfl, rfl, hk, hz⟩
    have fin : ∀ (_ : m = 0 ∨ l.getD (m - 1) 0 ≠ 0), tRet (tCB (fun xs H Q => ∃ p ys, xs = [.ref p] ∧ ((SqL K H p ys ∧ ∀ l, H l = none → Q (.ref l) (upd H l (.tup ys))) ∨ (SqT K H p ys ∧ Q (.ref p) H))) (tCons (tSl (rSlL K) (tVar 0) tNoPart (tPart (tVar 1))) tNil)) { nx := fun x H' => Q V.non H', rt := Q } [some (.ref a), some (.int (m : Int))] H1 := fun h => by
      refine ⟨_, rfl, _, rfl, _, rfl, a, _, rfl, hs, fun x nx => ?_⟩
      have sx : Same H1 (upd H1 x (.lst (cutV (bV l) none (some (m : Int))))) := Same.new nx
      refine ⟨x, _, rfl, .inl ⟨SqL.of upd_same, fun p np => ?_⟩⟩
      refine q (l.take m) p _ ⟨m, hk, rfl, h, hz⟩ (sx.trans (Same.new np)) (sx.free np) ?_
      rw [upd_same, pcut_to]
    refine ⟨_, rfl, _, _, rfl, rfl, _, rfl, ?_⟩
    by_cases h0 : m = 0
    · subst h0
      refine iteF ?_
      exact fin (.inl rfl)
    · rw [decide_eq_true (show (0 : Int) < (m : Int) by omega)]
      refine iteT ?_
      have hm1 : m - 1 < l.length := by omega
      have hg : l[m - 1]? = some (l.getD (m - 1) 0) := by rw [List.getD_eq_getElem?_getD, List.getElem?_eq_getElem hm1]; rfl
      refine ⟨_, rfl, _, rfl, _, _, rfl, rfl, a, _, _, _, rfl, rfl, hs, at_of (j := m - 1) (by omega) (bV_at hg), rfl, _, rfl, ?_⟩
      by_cases hv : l.getD (m - 1) 0 = 0
      · rw [show decide (V.int ((l.getD (m - 1) 0 : Nat) : Int) = V.int 0) = true by rw [hv]; rfl]
        refine iteT ?_
        refine ⟨fun σ' H' => ∃ k : Nat, k < m ∧ σ' = [some (.ref a), some (.int k)] ∧ H' = H1 ∧ k ≤ l.length ∧ ∀ j, k ≤ j → l.getD j 0 = 0, fun σ' H' ⟨k, a1, a2, a3, a4, a5⟩ => ⟨k, a1, k, rfl, a2, a3, a4, a5⟩, ?_⟩
        refine ⟨_, rfl, _, _, rfl, rfl, m - 1, by omega, ?_, rfl, by omega, fun j hj => ?_⟩
        · show [_, some (V.int ((m : Int) - 1))] = _
          rw [show (m : Int) - 1 = ((m - 1 : Nat) : Int) by omega]
        · by_cases e : j = m - 1
          · rw [e]; exact hv
          · exact hz j (by omega)
      · rw [show decide (V.int ((l.getD (m - 1) 0 : Nat) : Int) = V.int 0) = false from decide_eq_false fun e => hv (by injection e with e; omega)]
        refine iteF ?_
        exact fin (.inr hv)
theorem ok_scl {f : Addr} {fd : FuncData} (D : Dfn K mg "poly_scaled" spoly_scaled ppoly_scaled f fd) (B : Bi mg) (T : TP mg) : FnOk P w K mg base CX0 1 f fd ppoly_scaled (spScl K) := by
  have nd := scpoly_scaled.nd
  obtain ⟨tp, hp⟩ := T.pr
  refine D.F.ok scpoly_scaled (fun vs H Q E h => ?_) (fun cdv A outer s H vs Q E hr h => ?_)
  · obtain ⟨a, l, f, rfl, _⟩ := h
    rfl
  · obtain ⟨a, l, f, rfl, hs, hpm, hf, hl, q⟩ := h
    refine ⟨_, pss_one (ps_ret (pe_callTy call_tuple_of (by rfl) B.tuple (by decide +kernel) (pa_cons
        (pe_lc (own := [("number", 2)]) (g := gName 2) (tt := tYes) (te := tOp (rI (fun _ j => 0 < j) fun i j => .int (i % j)) (tOp (rI CMulW fun i j => .int (i * j)) (tVar 2) (tVar 1)) (tC (.int 2305843009213693951))) rfl nd (pi_tup (pv 0)) (blkOk_by (N := npoly_scaled) (sc := defScope spoly_scaled) (by decide +kernel)) (fun _ _ _ _ _ => pg_name (i := 2) nd rfl (.inl rfl)) (fun _ _ _ _ _ => pts_nil)
          (fun _ _ _ _ _ => by exact pe_op op_mod (pe_op op_mulW (pv 2) (pv 1)) (pe_glob (v := .int 2305843009213693951) rfl hp ⟨_, rfl⟩))) pa_nil))), ?_⟩
    refine ⟨_, rfl, a, rfl, ⟨_, hs⟩, fun Dl hD => ?_⟩
    refine lc_tup (K := K) (a := a) (xs := bV l) (fun i H3 => H3 Dl = some (.lst (bV (scl f (l.take i)))) ∧ Same H H3) ⟨upd_same, Same.new hD⟩ (fun i H3 hi h => Same.seqT h.2 hs) ?_ ?_
    · rintro i x H3 hx ⟨hd3, s3⟩
      obtain ⟨n, hn, rfl⟩ := bV_get hx
      have hi : i < l.length := (List.getElem?_eq_some_iff.mp hn).1
      have hn2 := hpm n (List.mem_of_getElem? hn)
      refine ⟨rfl, ?_⟩
      refine yes ?_
      refine ⟨_, rfl, _, rfl, _, _, rfl, rfl, wide_mul (a := 62) (b := 62) (by omega) (by omega) (by decide) (by decide) (by decide), _, _, rfl, rfl, (by show (0 : Int) < 2305843009213693951; decide), ?_⟩
      refine ⟨_, hd3, ?_, ?_, fun b u hb => ?_⟩
      · rw [bV_len]
        unfold scl
        rw [List.length_map, List.length_take, sizeLine_eq]
        omega
      · rw [upd_same, take_more hn]
        unfold scl
        rw [List.map_append, ← bV_append]
        show some (HO.lst (_ ++ [V.int ((n : Int) * (f : Int) % 2305843009213693951)])) = _
        rw [← md_int]
        rfl
      · rw [upd_ne (ne_of_none hb hD)]
        exact s3 _ _ hb
    · rintro H3 ⟨hd3, s3⟩
      rw [bV_len, List.take_length] at hd3
      refine ⟨Dl, _, rfl, .inl ⟨SqL.of hd3, fun p np => ?_⟩⟩
      exact q p _ (s3.trans (Same.new np)) (s3.free np) upd_same
end
theorem rp_more {rs : List Nat} {i r : Nat} (l : List Nat) (h : rs[i]? = some r) : rp l (rs.take (i + 1)) = mr r (rp l (rs.take i)) := by
  unfold rp
  rw [take_more h, List.foldl_append]
  rfl
theorem Pm.cons {n : Nat} {l : List Nat} (hn : n < 2305843009213693951) (h : Pm l) : Pm (n :: l) := fun m hm => by
  rcases List.mem_cons.mp hm with rfl | hm
  · exact hn
  · exact h m hm
theorem Pm.snoc {n : Nat} {l : List Nat} (hn : n < 2305843009213693951) (h : Pm l) : Pm (l ++ [n]) := fun m hm => by
  rcases List.mem_append.mp hm with hm | hm
  · exact h m hm
  · rw [List.mem_singleton.mp hm]; exact hn
theorem pm_one : Pm [1] := fun n hn => by rw [List.mem_singleton.mp hn]; omega
end K07
namespace K07
open PySem L2 Pg RZ
/-! ### the program: poly_divided -/
theorem sameF {H H1 : Hp} {p : Addr} {o : HO} (s : Same H H1) (h : H p = none) : Same H (upd H1 p o) := fun b u e => by
  rw [upd_ne (ne_of_none e h)]
  exact s b u e
theorem pbV_set (b : List Nat) (j y : Nat) : (bV b).set j (.int (y : Int)) = bV (b.set j y) := by
  unfold bV
  rw [List.map_set]
theorem pg_at {l : List Nat} {i : Nat} (h : i < l.length) : l[i]? = some (l.getD i 0) := by
  rw [List.getD_eq_getElem?_getD, List.getElem?_eq_getElem h]
  rfl
theorem pix {n j : Nat} {i : Int} (e : i = (j : Int)) (h : j < n) : ixN n i = some j := by
  unfold ixN
  rw [if_pos (by omega), if_pos (by omega)]
  congr 1
  omega
theorem plast {l : List Nat} (h : 0 < l.length) : atI (bV l) (-1) = some (.int (l.getD (l.length - 1) 0 : Nat)) := by
  unfold atI ixN
  rw [bV_len, if_neg (by decide), if_pos (by omega)]
  show (bV l)[(-1 + (l.length : Int)).toNat]? = _
  rw [show (-1 + (l.length : Int)).toNat = l.length - 1 by omega]
  exact bV_at (pg_at (by omega))
theorem gss {R : Type} [Po.Fd R] (a : R) : a - a = 0 := by grind
/-- no zeros at its end -/
def NoZ (l : List Nat) : Prop := l = [] ∨ l.getD (l.length - 1) 0 ≠ 0
theorem Trm.facts {l t : List Nat} (h : Trm l t) (hp : Pm l) : Pm t ∧ NoZ t ∧ cf t = cf l ∧ t.length ≤ l.length := by
  obtain ⟨m, hm, rfl, h0, hz⟩ := h
  have hlen : (l.take m).length = m := by rw [List.length_take]; omega
  refine ⟨fun n hn => hp n (List.mem_of_mem_take hn), ?_, ?_, by rw [hlen]; exact hm⟩
  · rcases h0 with rfl | h0
    · exact .inl rfl
    · by_cases hm0 : m = 0
      · subst hm0; exact .inl rfl
      · refine .inr ?_
        rw [hlen, List.getD_eq_getElem?_getD, List.getElem?_take, if_pos (by omega), ← List.getD_eq_getElem?_getD]
        exact h0
  · funext k
    show c (((l.take m).getD k 0 : Nat) : Int) = c ((l.getD k 0 : Nat) : Int)
    by_cases hk : k < m
    · rw [List.getD_eq_getElem?_getD, List.getElem?_take, if_pos hk, ← List.getD_eq_getElem?_getD]
    · rw [hz k (by omega), List.getD_eq_getElem?_getD, List.getElem?_eq_none (by omega)]
      rfl
theorem Trm.short {l t : List Nat} {n : Nat} (h : Trm l t) (hn : 0 < n) (hz : ∀ j, n - 1 ≤ j → l.getD j 0 = 0) : t.length < n := by
  obtain ⟨m, hm, rfl, h0, _⟩ := h
  rw [List.length_take]
  rcases h0 with rfl | h0
  · omega
  · have : ¬ n - 1 ≤ m - 1 := fun e => h0 (hz _ e)
    omega
abbrev spoly_divided : Stmt := top 18
abbrev npoly_divided : List Str := ["poly", "other", "left", "step", "lead", "quotient", "at", "factor", "k", "number"]
abbrev ppoly_divided : List Str := ["poly", "other"]
theorem scpoly_divided : FnScope npoly_divided ppoly_divided (defScope spoly_divided) := ⟨rfl, rfl, rfl, by decide +kernel, rfl, by decide +kernel, by decide +kernel⟩
/-- what is left -/
structure Rem (A B R : List Nat) : Prop where
  pm : Pm R
  nz : NoZ R
  sh : R.length < B.length
  le : R.length ≤ A.length
  id : Po.I (Po.One (cf B)) (fun k => cf A k - cf R k)
/-- the quotient -/
structure Quo (A B R Qt : List Nat) : Prop where
  pm : Pm Qt
  nz : NoZ Qt
  le : Qt.length ≤ A.length
  eq : cf A = Po.add (Po.mul (Qt.map Pk.cn) (cf B)) (cf R)
theorem shn_sk : ∀ (n : Nat) (f : Po.Q F), shn n f = Pl.sk n f
  | 0, _ => rfl
  | n + 1, f => by show Po.sh (shn n f) = Po.sh (Pl.sk n f); rw [shn_sk n f]
theorem sk_nil : ∀ n, Pl.sk n (Po.nil : Po.Q F) = Po.nil
  | 0 => rfl
  | n + 1 => by
    show Po.sh (Pl.sk n Po.nil) = Po.nil
    rw [sk_nil n]
    funext k
    cases k <;> rfl
theorem gqs {R : Type} [Po.Fd R] (a b c : R) : a + b = (c + a) + (b - c) := by grind
theorem gqa {R : Type} [Po.Fd R] (b : R) : b = 0 + b := by grind
theorem quo0 (A : Po.Q F) (C : Po.Q F) (n : Nat) : A = Po.add (Pl.sk n (Po.mul [] C)) A := by
  show A = Po.add (Pl.sk n Po.nil) A
  rw [sk_nil]
  funext k
  exact gqa _
theorem quo_step {C : List Nat} {n f : Nat} {X L L' : Po.Q F} (h : L' = fun j => L j - Po.smul (c f) (shn n (cf C)) j) :
    Po.add (Pl.sk (n + 1) X) L = Po.add (Pl.sk n (Po.add (Po.smul (Pk.cn f) (cf C)) (Po.sh X))) L' := by
  rw [Px.sk_add, Px.sk_smul, h, shn_sk]
  have e : Pl.sk n (Po.sh X) = Pl.sk (n + 1) X := by
    have := Px.sk_sk 1 X n
    rw [show 1 + n = n + 1 by omega] at this
    exact this
  rw [e]
  funext k
  exact gqs _ _ _
def spDiv (K : PySem.W.Frag) : Sp := fun vs H Q _ => ∃ (a b : Addr) (A B : List Nat), vs = [.ref a, .ref b] ∧ SqT K H a (bV A) ∧ SqT K H b (bV B) ∧ Pm A ∧ Pm B ∧ A.length ≤ 1000 ∧ B.length ≤ 61 ∧ B ≠ [] ∧ NoZ B ∧
  ∀ (p qp rp : Addr) (R Qt : List Nat) (H' : Hp), Rem A B R → Quo A B R Qt → Same H H' → H p = none → H rp = none → H qp = none → H' p = some (.tup [.ref qp, .ref rp]) → H' rp = some (.tup (bV R)) → H' qp = some (.tup (bV Qt)) → Q (.ref p) H'
section
variable {P : Program} {w : World} {K : PySem.W.Frag} {mg : Str → Option Value} {base : Heap}
theorem ok_div {f fI fT : Addr} {fd fdI fdT : FuncData} (D : Dfn K mg "poly_divided" spoly_divided ppoly_divided f fd) (B : Bi mg) (T : TP mg) (DI : Dfn K mg "inverse" sinverse pinverse fI fdI) (DT : Dfn K mg "trimmed" strimmed ptrimmed fT fdT) :
    FnOk P w K mg base CX0 2 f fd ppoly_divided (spDiv K) := by
  have GI : FnOk P w K mg base CX0 1 fI fdI pinverse spInv := ok_inv DI T
  have GT : FnOk P w K mg base CX0 1 fT fdT ptrimmed (spTrm K) := ok_trm DT B
  have nd := scpoly_divided.nd
  obtain ⟨tp, hp⟩ := T.pr
  refine D.F.ok scpoly_divided (fun vs H Q E h => ?_) (fun cdv Ar outer s H vs Q E hr h => ?_)
  · obtain ⟨a, b, A, B', rfl, _⟩ := h
    rfl
  · obtain ⟨a, b, A, C, rfl, ha, hb, hA, hC, la, lb, hne, hnz, q⟩ := h
    refine ⟨_, pss_cons (ps_set (i := 2) nd rfl (.inl rfl) (pe_callTy call_list_of (by rfl) B.list (by decide +kernel) (pa_cons (pv 0) pa_nil)))
      (pss_cons (ps_set (i := 3) nd rfl (.inl rfl) (pe_op op_sub (pe_callB call_len_seq (by rfl) B.len PySem.boot_len (pa_cons (pv 1) pa_nil)) pe_int))
      (pss_cons (ps_set (i := 4) nd rfl (.inl rfl) (pe_call GI hr (by rfl) DI.g DI.F.kp DI.b .nil pass0 (pa_cons (pe_ix ix_tup (pv 1) (pe_un un_neg pe_int) (fun _ _ => rfl)) pa_nil)))
      (pss_cons (ps_set (i := 5) nd rfl (.inl rfl) (pe_lst pa_nil))
      (pss_cons (ps_for PassesOwn.never rfl (pi_range3 (by rfl) B.range (pa_cons (pe_op op_sub (pe_callB call_len_seq (by rfl) B.len PySem.boot_len (pa_cons (pv 0) pa_nil)) (pe_callB call_len_seq (by rfl) B.len PySem.boot_len (pa_cons (pv 1) pa_nil)))
            (pa_cons (pe_un un_neg pe_int) (pa_cons (pe_un un_neg pe_int) pa_nil)))) (pg_name (i := 6) nd rfl (.inl rfl))
        (pss_cons (ps_set (i := 7) nd rfl (.inl rfl) (pe_op op_mod (pe_op op_mulW (pe_ix ix_list (pv 2) (pe_op op_add (pv 6) (pv 3)) (fun _ _ => rfl)) (pv 4)) (pe_glob (v := .int 2305843009213693951) rfl hp ⟨_, rfl⟩)))
        (pss_cons (ps_expr (pe_bm PySem.F.plainAttrs_list PySem.F.slot_list_append PySem.F.type_list_append mt_append (pv 5) (pa_cons (pv 7) pa_nil)))
        (pss_one (ps_for PassesOwn.never rfl (EnT.pi_enumT (by rfl) T.en (pa_cons (pv 1) pa_nil)) (pg_tup rfl (pgs_cons (pg_name (i := 8) nd rfl (.inl rfl)) (pgs_cons (pg_name (i := 9) nd rfl (.inl rfl)) pgs_nil)))
          (pss_one (ps_asg (pe_op op_mod (pe_op op_sub (pe_ix ix_list (pv 2) (pe_op op_add (pv 6) (pv 8)) (fun _ _ => rfl)) (pe_op op_mulW (pv 7) (pv 9))) (pe_glob (v := .int 2305843009213693951) rfl hp ⟨_, rfl⟩)) (pg_sub (pv 2) (pe_op op_add (pv 6) (pv 8)) set_list)))))))
      )
      (pss_one (ps_ret (pe_tup (pa_cons (pe_call GT hr (by rfl) DT.g DT.F.kp DT.b .nil pass0 (pa_cons (pe_revL (pv 5)) pa_nil)) (pa_cons (pe_call GT hr (by rfl) DT.g DT.F.kp DT.b .nil pass0 (pa_cons (pv 2) pa_nil)) pa_nil))))))))), ?_⟩
    have lb0 : 0 < C.length := List.length_pos_iff.mpr hne
    have hlast : C.getD (C.length - 1) 0 ≠ 0 := hnz.elim (fun e => absurd e hne) id
    refine ⟨_, rfl, a, _, rfl, .inr ha, fun lf nlf => ?_⟩
    have s1 : Same H (upd H lf (.lst (bV A))) := Same.new nlf
    have h1 : (upd H lf (.lst (bV A))) lf = some (.lst (bV A)) := upd_same
    generalize upd H lf (.lst (bV A)) = H1 at s1 h1
    refine ⟨_, rfl, b, _, rfl, .inr (Same.seqT s1 hb), _, _, rfl, rfl, ?_⟩
    refine ⟨_, rfl, _, rfl, b, _, _, _, rfl, rfl, Same.seqT s1 hb, plast lb0, C.getD (C.length - 1) 0, rfl, by omega, hC.at _, fun ld H2 ld1 hld s2 => ?_⟩
    have s12 := s1.trans s2
    refine ⟨Nat.zero_le _, fun qo nqo => ?_⟩
    have nqoH : H qo = none := s12.free nqo
    have hlf2 := s2 _ _ h1
    have s3 : Same H (upd H2 qo (.lst [])) := s12.trans (Same.new nqo)
    have hlq : lf ≠ qo := ne_of_none hlf2 nqo
    have hlf3 : (upd H2 qo (.lst [])) lf = some (.lst (bV A)) := by rw [upd_ne hlq]; exact hlf2
    have hqo3 : (upd H2 qo (.lst [])) qo = some (.lst (bV [])) := upd_same
    generalize upd H2 qo (.lst []) = H3 at s3 hlf3 hqo3
    refine ⟨_, rfl, a, _, rfl, .inr (Same.seqT s3 ha), _, rfl, b, _, rfl, .inr (Same.seqT s3 hb), _, _, rfl, rfl, _, rfl, _, rfl, _, _, _, _, rfl, RgC.neg (by rw [bV_len, bV_len]; omega) (by rw [bV_len, bV_len]; omega) (by decide) (by decide), ?_⟩
    refine for_rangeC (fun t σ H4 => ∃ (L qs : List Nat) (v6 v7 v8 v9 : Option V), σ = [some (.ref a), some (.ref b), some (.ref lf), some (.int (((bV C).length : Nat) - 1 : Int)), some (.int ld), some (.ref qo), v6, v7, v8, v9] ∧ Same H H4 ∧ H4 lf = some (.lst (bV L)) ∧ H4 qo = some (.lst (bV qs)) ∧ qs.length = t ∧ L.length = A.length ∧ Pm L ∧ Po.I (Po.One (cf C)) (fun k => cf A k - cf L k) ∧ (∀ j, A.length - t ≤ j → L.getD j 0 = 0) ∧ Pm qs ∧ cf A = Po.add (Pl.sk (A.length - C.length + 1 - t) (Po.mul (qs.reverse.map Pk.cn) (cf C))) (cf L))
      ⟨A, [], none, none, none, none, rfl, s3, hlf3, hqo3, rfl, rfl, hA, Po.I.nil fun k => gss _, (fun j hj => by rw [List.getD_eq_getElem?_getD, List.getElem?_eq_none (by omega)]; rfl), (fun n hn => nomatch hn), quo0 _ _ _⟩ ?_ ?_
    · rintro t σ H4 ht ⟨L, qs, v6, v7, v8, v9, rfl, s4, hlf4, hqo4, hqs, hL, hLm, hI, hz, hqm, hqe⟩
      have ht' : t + C.length ≤ A.length := by
        rw [bV_len, bV_len] at ht
        omega
      have eat : (((bV A).length : Nat) : Int) - (((bV C).length : Nat) : Int) + ((t : Nat) : Int) * -1 = ((A.length - C.length - t : Nat) : Int) := by
        rw [bV_len, bV_len]
        omega
      have est : (((bV C).length : Nat) - 1 : Int) = ((C.length - 1 : Nat) : Int) := by
        rw [bV_len]
        omega
      have hLa := hLm.at (A.length - C.length - t + (C.length - 1))
      -- factor
      have ef : ((L.getD (A.length - C.length - t + (C.length - 1)) 0 : Nat) : Int) * (ld : Int) % 2305843009213693951 = ((md ((L.getD (A.length - C.length - t + (C.length - 1)) 0 : Nat) * (ld : Nat)) : Nat) : Int) := (md_int _).symm
      refine ⟨_, rfl, _, rfl, _, rfl, _, _, rfl, rfl, lf, _, _, _, rfl, rfl, SqL.of hlf4, at_of (j := A.length - C.length - t + (C.length - 1)) (by rw [eat, est]; omega) (bV_at (pg_at (by omega))), _, rfl, _, _, rfl, rfl, wide_mul (a := 62) (b := 62) (by omega) (by omega) (by decide) (by decide) (by decide), _, _, rfl, rfl, (by show (0 : Int) < 2305843009213693951; decide), ?_⟩
      refine ⟨_, rfl, .inl ⟨rfl, _, SqL.of hqo4⟩, _, rfl, qo, _, _, rfl, rfl, hqo4, ?_, ?_⟩
      · rw [bV_len, sizeLine_eq]
        omega
      have s5 := sameF (o := .lst (bV qs ++ [V.int (((L.getD (A.length - C.length - t + (C.length - 1)) 0 : Nat) : Int) * (ld : Int) % 2305843009213693951)])) s4 nqoH
      have hqo5 : (upd H4 qo (.lst (bV qs ++ [V.int (((L.getD (A.length - C.length - t + (C.length - 1)) 0 : Nat) : Int) * (ld : Int) % 2305843009213693951)]))) qo = some (.lst (bV (qs ++ [md ((L.getD (A.length - C.length - t + (C.length - 1)) 0 : Nat) * (ld : Nat))]))) := by
        rw [upd_same, bV_app, ef]
      have hlf5 : (upd H4 qo (.lst (bV qs ++ [V.int (((L.getD (A.length - C.length - t + (C.length - 1)) 0 : Nat) : Int) * (ld : Int) % 2305843009213693951)]))) lf = some (.lst (bV L)) := by
        rw [upd_ne hlq]
        exact hlf4
      generalize upd H4 qo (.lst (bV qs ++ [V.int (((L.getD (A.length - C.length - t + (C.length - 1)) 0 : Nat) : Int) * (ld : Int) % 2305843009213693951)])) = H5 at s5 hqo5 hlf5
      refine ⟨_, rfl, b, _, rfl, Same.seqT s5 hb, ?_⟩
      refine EnT.for_enT (fun k σ H6 => ∃ (L' : List Nat) (v8 v9 : Option V), σ = [some (.ref a), some (.ref b), some (.ref lf), some (.int (((bV C).length : Nat) - 1 : Int)), some (.int ld), some (.ref qo), some (.int ((((bV A).length : Nat) : Int) - (((bV C).length : Nat) : Int) + ((t : Nat) : Int) * -1)), some (.int (((L.getD (A.length - C.length - t + (C.length - 1)) 0 : Nat) : Int) * (ld : Int) % 2305843009213693951)), v8, v9] ∧ Same H H6 ∧ H6 lf = some (.lst (bV L')) ∧ H6 qo = some (.lst (bV (qs ++ [md ((L.getD (A.length - C.length - t + (C.length - 1)) 0 : Nat) * (ld : Nat))]))) ∧ Took L C (A.length - C.length - t) (md ((L.getD (A.length - C.length - t + (C.length - 1)) 0 : Nat) * (ld : Nat))) k L')
        ⟨L, v8, v9, rfl, s5, hlf5, hqo5, took0 hLm⟩ (fun k σ H6 h => by obtain ⟨L', v8, v9, _, s6, _⟩ := h; exact Same.seqT s6 hb) ?_ ?_
      · rintro k x Tt σ H6 hx ⟨L', v8, v9, rfl, s6, hl6, hq6, hT⟩ nT
        obtain ⟨num, hn, rfl⟩ := bV_get hx
        have hk : k < C.length := (List.getElem?_eq_some_iff.mp hn).1
        have hnum : num = C.getD k 0 := by rw [List.getD_eq_getElem?_getD, hn]; rfl
        have hnP := hC num (List.mem_of_getElem? hn)
        have s7 := s6.trans (Same.new (o := .tup [.int (k : Nat), .int (num : Nat)]) nT)
        have hl7 := (Same.new (o := .tup [.int (k : Nat), .int (num : Nat)]) nT) _ _ hl6
        have hq7 := (Same.new (o := .tup [.int (k : Nat), .int (num : Nat)]) nT) _ _ hq6
        refine ⟨Tt, [V.int (k : Int), V.int (num : Int)], rfl, .inl (.inl upd_same), rfl, _, _, rfl, _, _, rfl, rfl, ?_⟩
        generalize upd H6 Tt (.tup [.int (k : Nat), .int (num : Nat)]) = H7 at s7 hl7 hq7
        have hL'len := hT.1
        have hLk := hT.2.1.at (A.length - C.length - t + k)
        have hN := hT.next (by omega)
        refine ⟨_, rfl, _, rfl, _, rfl, _, _, rfl, rfl, lf, _, _, _, rfl, rfl, SqL.of hl7, at_of (j := A.length - C.length - t + k) (by rw [eat]; omega) (bV_at (pg_at (by omega))), _, rfl, _, rfl, _, _, rfl, rfl, wide_mul (a := 62) (b := 62) (by rw [ef]; have := md_lt (((L.getD (A.length - C.length - t + (C.length - 1)) 0 : Nat) : Int) * (ld : Int)); omega) (by omega) (by decide) (by decide) (by decide), _, _, rfl, rfl, _, _, rfl, rfl, (by show (0 : Int) < 2305843009213693951; decide), ?_⟩
        refine ⟨_, rfl, _, rfl, _, rfl, _, _, rfl, rfl, lf, _, _, A.length - C.length - t + k, rfl, rfl, hl7, ?_, ?_⟩
        · rw [bV_len]
          exact pix (by rw [eat]; omega) (by omega)
        refine ⟨_, _, _, rfl, sameF s7 nlf, ?_, ?_, hN⟩
        · show upd H7 lf (.lst ((bV L').set (A.length - C.length - t + k) (.int ((((L'.getD (A.length - C.length - t + k) 0 : Nat) : Int) - ((L.getD (A.length - C.length - t + (C.length - 1)) 0 : Nat) : Int) * (ld : Int) % 2305843009213693951 * (num : Int)) % 2305843009213693951)))) lf = _
          rw [upd_same, ef, ← md_int, pbV_set, hnum]
        · rw [upd_ne (Ne.symm hlq)]
          exact hq7
      · rintro σ H6 ⟨L', v8, v9, rfl, s6, hl6, hq6, hT⟩
        rw [bV_len] at hT
        have hl1 : c (ld : Nat) * c (C.getD (C.length - 1) 0 : Nat) = 1 := hld
        obtain ⟨hI2, hz2⟩ := hT.step (poly := A) (lead := ld) hC lb0 hl1 rfl hI (fun j hj => hz j (by omega))
        have hqe2 : cf A = Po.add (Pl.sk (A.length - C.length + 1 - (t + 1)) (Po.mul ((qs ++ [md ((L.getD (A.length - C.length - t + (C.length - 1)) 0 : Nat) * (ld : Nat))]).reverse.map Pk.cn) (cf C))) (cf L') := by
          rw [List.reverse_append, show A.length - C.length + 1 - (t + 1) = A.length - C.length - t by omega, hqe, show A.length - C.length + 1 - t = A.length - C.length - t + 1 by omega]
          exact quo_step hT.cf
        refine ⟨L', _, _, _, _, _, rfl, s6, hl6, hq6, ?_, by rw [hT.1, hL], hT.2.1, hI2, fun j hj => hz2 j (by omega), ?_, hqe2⟩
        rotate_left
        · intro m hm
          rcases List.mem_append.mp hm with hm | hm
          · exact hqm m hm
          · rw [List.mem_singleton.mp hm]; exact md_lt _
        rw [List.length_append, hqs]
        rfl
    · rintro σ H4 ⟨L, qs, v6, v7, v8, v9, rfl, s4, hlf4, hqo4, hqs, hL, hLm, hI, hz, hqm, hqe⟩
      rw [bV_len, bV_len] at hz hqs
      rw [bV_len, bV_len, ← hqs] at hqe
      refine ⟨_, rfl, qo, _, rfl, SqL.of hqo4, fun rv nrv => ?_⟩
      have s5 := s4.trans (Same.new (o := .lst (bV qs).reverse) nrv)
      have hlf5 := (Same.new (o := .lst (bV qs).reverse) nrv) _ _ hlf4
      have hrv5 : (upd H4 rv (.lst (bV qs).reverse)) rv = some (.lst (bV qs.reverse)) := by
        rw [upd_same]
        unfold bV
        rw [List.map_reverse]
      generalize upd H4 rv (.lst (bV qs).reverse) = H5 at s5 hlf5 hrv5
      refine ⟨rv, qs.reverse, rfl, SqL.of hrv5, by rw [List.length_reverse]; omega, fun qt qp H6 hqt s6 nqp hqp => ?_⟩
      have s56 := s5.trans s6
      refine ⟨_, rfl, lf, L, rfl, SqL.of (s6 _ _ hlf5), by omega, fun R rp H7 hR s7 nrp hrp => ?_⟩
      have s57 := s56.trans s7
      obtain ⟨r1, r2, r3, r4⟩ := hR.facts hLm
      refine ⟨(by show 2 ≤ sizeLine; decide), fun p np => ?_⟩
      obtain ⟨q1, q2, q3, q4⟩ := hqt.facts (fun n hn => hqm n (List.mem_reverse.mp hn))
      have hqx : cf A = Po.add (Po.mul (qt.map Pk.cn) (cf C)) (cf R) := by
        have e1 : Po.mul (qt.map Pk.cn) (cf C) = Po.mul (qs.reverse.map Pk.cn) (cf C) := Pl.mul_congr _ _ _ ((Pk.cf_lf qt).symm.trans (q3.trans (Pk.cf_lf _)))
        rw [e1, r3]
        refine hqe.trans ?_
        by_cases hAC : C.length ≤ A.length
        · rw [show A.length - C.length + 1 - qs.length = 0 by omega]
          rfl
        · have : qs = [] := List.eq_nil_of_length_eq_zero (by rw [hqs]; omega)
          subst this
          show Po.add (Pl.sk _ Po.nil) _ = _
          rw [sk_nil]
          rfl
      rw [List.length_reverse] at q4
      refine q p qp rp R qt _ ⟨r1, r2, hR.short lb0 (fun j hj => hz j (by omega)), by omega, by rw [r3]; exact hI⟩ ⟨q1, q2, by omega, hqx⟩ (s57.trans (Same.new np)) (s57.free np) (s56.free nrp) (s5.free nqp) upd_same ((Same.new np) _ _ hrp) ((Same.new np) _ _ (s7 _ _ hqp))
end
end K07
namespace K07
open PySem L2 Pg RZ
/-! ### the program: monic, divisor -/
abbrev smonic : Stmt := top 19
abbrev nmonic : List Str := ["poly"]
abbrev pmonic : List Str := ["poly"]
theorem scmonic : FnScope nmonic pmonic (defScope smonic) := ⟨rfl, rfl, rfl, by decide +kernel, rfl, by decide +kernel, by decide +kernel⟩
/-- with 1 as its leading number -/
def Mon (A M : List Nat) : Prop := (A = [] ∧ M = []) ∨ (A ≠ [] ∧ ∃ r : Nat, c (r : Nat) * c (A.getD (A.length - 1) 0 : Nat) = 1 ∧ M = scl r A)
def spMon (K : PySem.W.Frag) : Sp := fun vs H Q _ => ∃ (a : Addr) (A : List Nat), vs = [.ref a] ∧ SqT K H a (bV A) ∧ Pm A ∧ NoZ A ∧ A.length ≤ 61 ∧ ∀ (M : List Nat) (p : Addr) (H' : Hp), Mon A M → Same H H' → SqT K H' p (bV M) → Q (.ref p) H'
abbrev sdivisor : Stmt := top 20
abbrev ndivisor : List Str := ["poly", "other"]
abbrev pdivisor : List Str := ["poly", "other"]
theorem scdivisor : FnScope ndivisor pdivisor (defScope sdivisor) := ⟨rfl, rfl, rfl, by decide +kernel, rfl, by decide +kernel, by decide +kernel⟩
structure GcdP (A B G : List Nat) : Prop where
  pm : Pm G
  nz : NoZ G
  le : G.length ≤ 61
  i : Po.I (Po.Two (cf A) (cf B)) (cf G)
  a : Po.I (Po.One (cf G)) (cf A)
  b : Po.I (Po.One (cf G)) (cf B)
structure Eus (A B X Y : List Nat) : Prop where
  px : Pm X
  py : Pm Y
  nx : NoZ X
  ny : NoZ Y
  lx : X.length ≤ 61
  ly : Y.length ≤ 61
  i1 : Po.I (Po.Two (cf A) (cf B)) (cf X)
  i2 : Po.I (Po.Two (cf A) (cf B)) (cf Y)
  j1 : Po.I (Po.Two (cf X) (cf Y)) (cf A)
  j2 : Po.I (Po.Two (cf X) (cf Y)) (cf B)
theorem gsb {R : Type} [Po.Fd R] (a b : R) : a - (a - b) = b := by grind
theorem gad {R : Type} [Po.Fd R] (a b : R) : (a - b) + b = a := by grind
theorem Eus.next {A B X Y R : List Nat} (E : Eus A B X Y) (h : Rem X Y R) : Eus A B Y R where
  px := E.py
  py := h.pm
  nx := E.ny
  ny := h.nz
  lx := E.ly
  ly := Nat.le_trans h.le E.lx
  i1 := E.i2
  i2 := by
    have h1 : Po.I (Po.Two (cf A) (cf B)) (fun k => cf X k - cf R k) := h.id.of fun f e => by rw [e]; exact E.i2
    have h2 := E.i1.sub h1
    have e : (fun k => cf X k - (cf X k - cf R k)) = cf R := by
      funext k
      exact gsb _ _
    rw [e] at h2
    exact h2
  j1 := E.j1.of fun f e => by
    rcases e with e | e
    · rw [e]
      have h1 : Po.I (Po.Two (cf Y) (cf R)) (fun k => cf X k - cf R k) := h.id.of fun f e => by rw [e]; exact .base (.inl rfl)
      have h2 := h1.add (.base (S := Po.Two (cf Y) (cf R)) (.inr rfl))
      have e : Po.add (fun k => cf X k - cf R k) (cf R) = cf X := by
        funext k
        exact gad _ _
      rw [e] at h2
      exact h2
    · rw [e]; exact .base (.inl rfl)
  j2 := E.j2.of fun f e => by
    rcases e with e | e
    · rw [e]
      have h1 : Po.I (Po.Two (cf Y) (cf R)) (fun k => cf X k - cf R k) := h.id.of fun f e => by rw [e]; exact .base (.inl rfl)
      have h2 := h1.add (.base (S := Po.Two (cf Y) (cf R)) (.inr rfl))
      have e : Po.add (fun k => cf X k - cf R k) (cf R) = cf X := by
        funext k
        exact gad _ _
      rw [e] at h2
      exact h2
    · rw [e]; exact .base (.inl rfl)
theorem Eus.stop {A B X : List Nat} (E : Eus A B X []) : GcdP A B X where
  pm := E.px
  nz := E.nx
  le := E.lx
  i := E.i1
  a := E.j1.of fun f e => by
    rcases e with e | e
    · rw [e]; exact .base rfl
    · exact Po.I.nil fun k => by rw [e]; exact cf_far (Nat.zero_le _)
  b := E.j2.of fun f e => by
    rcases e with e | e
    · rw [e]; exact .base rfl
    · exact Po.I.nil fun k => by rw [e]; exact cf_far (Nat.zero_le _)
def spGcd (K : PySem.W.Frag) : Sp := fun vs H Q _ => ∃ (a b : Addr) (A B : List Nat), vs = [.ref a, .ref b] ∧ SqT K H a (bV A) ∧ SqT K H b (bV B) ∧ Pm A ∧ Pm B ∧ NoZ A ∧ NoZ B ∧ A.length ≤ 61 ∧ B.length ≤ 61 ∧
  ∀ (G M : List Nat) (p : Addr) (H' : Hp), GcdP A B G → Mon G M → Same H H' → SqT K H' p (bV M) → Q (.ref p) H'
section
variable {P : Program} {w : World} {K : PySem.W.Frag} {mg : Str → Option Value} {base : Heap}
theorem ok_mon {f fI fS : Addr} {fd fdI fdS : FuncData} (D : Dfn K mg "monic" smonic pmonic f fd) (B : Bi mg) (T : TP mg) (DI : Dfn K mg "inverse" sinverse pinverse fI fdI) (DS : Dfn K mg "poly_scaled" spoly_scaled ppoly_scaled fS fdS) :
    FnOk P w K mg base CX0 2 f fd pmonic (spMon K) := by
  have GI : FnOk P w K mg base CX0 1 fI fdI pinverse spInv := ok_inv DI T
  have GS : FnOk P w K mg base CX0 1 fS fdS ppoly_scaled (spScl K) := ok_scl DS B T
  have nd := scmonic.nd
  refine D.F.ok scmonic (fun vs H Q E h => ?_) (fun cdv Ar outer s H vs Q E hr h => ?_)
  · obtain ⟨a, A, rfl, _⟩ := h
    rfl
  · obtain ⟨a, A, rfl, ha, hA, hz, hl, q⟩ := h
    refine ⟨_, pss_one (ps_ret (pe_ifExp (pt_cmpR op_gt (pe_callB call_len_seq (by rfl) B.len PySem.boot_len (pa_cons (pv 0) pa_nil)) pe_int (nomark _))
      (pe_call GS hr (by rfl) DS.g DS.F.kp DS.b .nil pass0 (pa_cons (pv 0) (pa_cons (pe_call GI hr (by rfl) DI.g DI.F.kp DI.b .nil pass0 (pa_cons (pe_ix ix_tup (pv 0) (pe_un un_neg pe_int) (fun _ _ => rfl)) pa_nil)) pa_nil))) (pv 0))), ?_⟩
    refine ⟨_, rfl, a, _, rfl, .inr ha, _, _, rfl, rfl, _, rfl, ?_⟩
    rw [bV_len]
    by_cases h0 : A = []
    · subst h0
      refine iteF ?_
      exact ⟨_, rfl, q [] a H (.inl ⟨rfl, rfl⟩) (Same.refl _) ha⟩
    · have hl0 : 0 < A.length := List.length_pos_iff.mpr h0
      have hlast : A.getD (A.length - 1) 0 ≠ 0 := hz.elim (fun e => absurd e h0) id
      rw [decide_eq_true (show (0 : Int) < (A.length : Int) by omega)]
      refine iteT ?_
      refine ⟨_, rfl, _, rfl, _, rfl, a, _, _, _, rfl, rfl, ha, plast hl0, A.getD (A.length - 1) 0, rfl, by omega, hA.at _, fun r H1 hr1 hr2 s1 => ?_⟩
      refine ⟨a, A, r, rfl, Same.seqT s1 ha, hA, hr1, by omega, fun p H2 s2 np hp => ?_⟩
      exact q (scl r A) p H2 (.inr ⟨h0, r, hr2, rfl⟩) (s1.trans s2) (.inl (.inl hp))
theorem ok_gcd {f fI fS fT fD fM : Addr} {fd fdI fdS fdT fdD fdM : FuncData} (D : Dfn K mg "divisor" sdivisor pdivisor f fd) (B : Bi mg) (T : TP mg) (DI : Dfn K mg "inverse" sinverse pinverse fI fdI) (DS : Dfn K mg "poly_scaled" spoly_scaled ppoly_scaled fS fdS)
    (DT : Dfn K mg "trimmed" strimmed ptrimmed fT fdT) (DD : Dfn K mg "poly_divided" spoly_divided ppoly_divided fD fdD) (DM : Dfn K mg "monic" smonic pmonic fM fdM) : FnOk P w K mg base CX0 3 f fd pdivisor (spGcd K) := by
  have GD : FnOk P w K mg base CX0 2 fD fdD ppoly_divided (spDiv K) := ok_div DD B T DI DT
  have GM : FnOk P w K mg base CX0 2 fM fdM pmonic (spMon K) := ok_mon DM B T DI DS
  have nd := scdivisor.nd
  refine D.F.ok scdivisor (fun vs H Q E h => ?_) (fun cdv Ar outer s H vs Q E hr h => ?_)
  · obtain ⟨a, b, A, C, rfl, _⟩ := h
    rfl
  · obtain ⟨a, b, A, C, rfl, ha, hb, hA, hC, zA, zC, la, lb, q⟩ := h
    refine ⟨_, pss_cons (ps_while PassesOwn.never (pt_cmpR op_gt (pe_callB call_len_seq (by rfl) B.len PySem.boot_len (pa_cons (pv 1) pa_nil)) pe_int (nomark _))
        (pss_one (ps_par (i := 0) (j := 1) (by rfl) nd rfl rfl (by decide) rfl rfl (pa_cons (pv 1) (pa_cons (pe_ix ix_tup (pe_call GD hr (by rfl) DD.g DD.F.kp DD.b .nil pass0 (pa_cons (pv 0) (pa_cons (pv 1) pa_nil))) pe_int (fun _ _ => rfl)) pa_nil)) (by rfl))))
      (pss_one (ps_ret (pe_call GM hr (by rfl) DM.g DM.F.kp DM.b .nil pass0 (pa_cons (pv 0) pa_nil)))), ?_⟩
    refine ⟨fun m σ H1 => ∃ (x y : Addr) (X Y : List Nat), m = Y.length ∧ σ = [some (.ref x), some (.ref y)] ∧ Same H H1 ∧ SqT K H1 x (bV X) ∧ SqT K H1 y (bV Y) ∧ Eus A C X Y,
      ⟨C.length, a, b, A, C, rfl, rfl, Same.refl _, ha, hb, ⟨hA, hC, zA, zC, la, lb, .base (.inl rfl), .base (.inr rfl), .base (.inl rfl), .base (.inr rfl)⟩⟩, ?_⟩
    rintro m σ H1 ⟨x, y, X, Y, rfl, rfl, s1, hx, hy, U⟩
    refine ⟨_, rfl, y, _, rfl, .inr hy, _, _, rfl, rfl, _, rfl, ?_⟩
    rw [bV_len]
    by_cases h0 : Y = []
    · subst h0
      refine iteF ?_
      exact ⟨_, rfl, x, X, rfl, hx, U.px, U.nx, U.lx, fun M p H2 hM s2 hp => q X M p H2 U.stop hM (s1.trans s2) hp⟩
    · have hl0 : 0 < Y.length := List.length_pos_iff.mpr h0
      rw [decide_eq_true (show (0 : Int) < (Y.length : Int) by omega)]
      refine iteT ?_
      refine ⟨fun σ' H' => ∃ (x y : Addr) (X Y' : List Nat), Y'.length < Y.length ∧ σ' = [some (.ref x), some (.ref y)] ∧ Same H H' ∧ SqT K H' x (bV X) ∧ SqT K H' y (bV Y') ∧ Eus A C X Y', fun σ' H' ⟨x, y, X, Y', h1, h2, h3, h4, h5, h6⟩ => ⟨_, h1, x, y, X, Y', rfl, h2, h3, h4, h5, h6⟩, ?_⟩
      refine ⟨_, rfl, _, rfl, _, rfl, x, y, X, Y, rfl, hx, hy, U.px, U.py, Nat.le_trans U.lx (by decide), U.ly, h0, U.ny, fun p qp rp R Qt H2 hR _ s2 np nrp _ hp hrp _ => ?_⟩
      refine ⟨p, _, _, _, rfl, rfl, .inl (.inl hp), rfl, _, _, rfl, ?_⟩
      exact ⟨y, rp, Y, R, hR.sh, rfl, s1.trans s2, Same.seqT s2 hy, .inl (.inl hrp), U.next hR⟩
end
end K07
namespace K07
open PySem L2 Pg RZ
/-! ### the program: the checks, value_at, by_roots, common -/
abbrev sis_number : Stmt := top 10
abbrev nis_number : List Str := ["value"]
abbrev pis_number : List Str := ["value"]
theorem scis_number : FnScope nis_number pis_number (defScope sis_number) := ⟨rfl, rfl, rfl, by decide +kernel, rfl, by decide +kernel, by decide +kernel⟩
def spNm : Sp := fun vs H Q _ => ∃ (n : Nat), vs = [.int n] ∧ n < 2305843009213693951 ∧ Q (.bl true) H
abbrev sis_numbers : Stmt := top 11
abbrev nis_numbers : List Str := ["value", "most", "number"]
abbrev pis_numbers : List Str := ["value", "most"]
theorem scis_numbers : FnScope nis_numbers pis_numbers (defScope sis_numbers) := ⟨rfl, rfl, rfl, by decide +kernel, rfl, by decide +kernel, by decide +kernel⟩
def spNms (K : PySem.W.Frag) : Sp := fun vs H Q _ => ∃ (a : Addr) (l : List Nat) (m : Nat), vs = [.ref a, .int m] ∧ SqT K H a (bV l) ∧ Pm l ∧ l.length ≤ m ∧ m ≤ 10000 ∧ ∀ H', Same H H' → Q (.bl true) H'
abbrev sis_poly : Stmt := top 12
abbrev nis_poly : List Str := ["value"]
abbrev pis_poly : List Str := ["value"]
theorem scis_poly : FnScope nis_poly pis_poly (defScope sis_poly) := ⟨rfl, rfl, rfl, by decide +kernel, rfl, by decide +kernel, by decide +kernel⟩
def spPol (K : PySem.W.Frag) : Sp := fun vs H Q _ => ∃ (a : Addr) (l : List Nat), vs = [.ref a] ∧ SqT K H a (bV l) ∧ Pm l ∧ NoZ l ∧ l.length ≤ 61 ∧ ∀ H', Same H H' → Q (.bl true) H'
theorem pall : ∀ (n : Nat), (List.replicate n true).all id = true
  | 0 => rfl
  | n + 1 => by
    rw [List.replicate_succ, List.all_cons, pall n]
    rfl
theorem dI_shaped {l : List Nat} (h : l.length ≤ 100000) : SeqAt.shaped (.tuple (dI l)) = true := (dI_pl h).shaped (by decide)
theorem dI_eqvT (l m : List Nat) : PyData.eqv (.tuple (dI l)) (.tuple (dI m)) = decide (l = m) := by
  simp only [PyData.eqv]
  exact dI_eqvAll l m
section
variable {P : Program} {w : World} {K : PySem.W.Frag} {mg : Str → Option Value} {base : Heap}
theorem ok_nm {f fB : Addr} {fd fdB : FuncData} (D : Dfn K mg "is_number" sis_number pis_number f fd) (B : Bi mg) (T : TP mg) (DB : Dfn K mg "is_between" sis_between pis_between fB fdB) : FnOk P w K mg base CX0 2 f fd pis_number spNm := by
  have GB : FnOk P w K mg base CX0 1 fB fdB pis_between spBtw := ok_btw DB B
  have nd := scis_number.nd
  obtain ⟨tp, hp⟩ := T.pr
  refine D.F.ok scis_number (fun vs H Q E h => ?_) (fun cdv A outer s H vs Q E hr h => ?_)
  · obtain ⟨n, rfl, _⟩ := h
    rfl
  · obtain ⟨n, rfl, hn, q⟩ := h
    refine ⟨_, pss_one (ps_ret (pe_call GB hr (by rfl) DB.g DB.F.kp DB.b .nil pass0 (pa_cons (pv 0) (pa_cons pe_int (pa_cons (pe_op op_sub (pe_glob (v := .int 2305843009213693951) rfl hp ⟨_, rfl⟩) pe_int) pa_nil))))), ?_⟩
    refine ⟨_, rfl, _, _, rfl, rfl, n, 0, 2305843009213693950, rfl, ?_⟩
    rw [decide_eq_true (show (0 : Int) ≤ (n : Int) ∧ (n : Int) ≤ 2305843009213693950 by omega)]
    exact q
theorem ok_nms {f fN fB : Addr} {fd fdN fdB : FuncData} (D : Dfn K mg "is_numbers" sis_numbers pis_numbers f fd) (B : Bi mg) (T : TP mg) (DN : Dfn K mg "is_number" sis_number pis_number fN fdN) (DB : Dfn K mg "is_between" sis_between pis_between fB fdB) :
    FnOk P w K mg base CX0 3 f fd pis_numbers (spNms K) := by
  have GN : FnOk P w K mg base CX0 2 fN fdN pis_number spNm := ok_nm DN B T DB
  have nd := scis_numbers.nd
  refine D.F.ok scis_numbers (fun vs H Q E h => ?_) (fun cdv A outer s H vs Q E hr h => ?_)
  · obtain ⟨a, l, m, rfl, _⟩ := h
    rfl
  · obtain ⟨a, l, m, rfl, hs, hpm, hl, hm, q⟩ := h
    refine ⟨_, pss_one (ps_ret (pe_and (pe_cmpR op_isTyB (pe_callTy call_type1 (by rfl) B.type (by decide +kernel) (pa_cons (pv 0) pa_nil)) (pe_bltn (v := .ty "tuple") (by rfl) B.tuple (by decide +kernel) rfl) (nomark _))
      (pe_and (pe_cmpR op_le (pe_callB call_len_seq (by rfl) B.len PySem.boot_len (pa_cons (pv 0) pa_nil)) (pv 1) (nomark _))
      (pe_one (pe_callB (cr_all rfl) (by rfl) B.all (by decide +kernel) (pa_cons
          (pe_lc (own := [("number", 2)]) (g := gName 2) (tt := tYes) rfl nd (pi_tup (pv 0)) (blkOk_by (N := nis_numbers) (sc := defScope sis_numbers) (by decide +kernel)) (fun _ _ _ _ _ => pg_name (i := 2) nd rfl (.inl rfl)) (fun _ _ _ _ _ => pts_nil)
            (fun _ _ _ _ _ => pe_call GN hr (by rfl) DN.g DN.F.kp DN.b .nil pass0 (pa_cons (pv 2) pa_nil))) pa_nil)))))), ?_⟩
    refine ⟨_, rfl, _, "tuple", rfl, .tup hs, _, _, rfl, rfl, _, rfl, ?_⟩
    refine iteT ?_
    refine ⟨_, rfl, a, _, rfl, .inr hs, _, rfl, _, _, rfl, rfl, _, rfl, ?_⟩
    rw [bV_len, decide_eq_true (show (l.length : Int) ≤ (m : Int) by omega)]
    refine iteT ?_
    refine ⟨_, rfl, a, rfl, ⟨_, hs⟩, fun Dl hD => ?_⟩
    refine lc_tup (K := K) (a := a) (xs := bV l) (fun i H3 => H3 Dl = some (.lst ((List.replicate i true).map V.bl)) ∧ Same H H3) ⟨upd_same, Same.new hD⟩ (fun i H3 hi h => Same.seqT h.2 hs) ?_ ?_
    · rintro i x H3 hx ⟨hd3, s3⟩
      obtain ⟨n, hn, rfl⟩ := bV_get hx
      have hi : i < l.length := (List.getElem?_eq_some_iff.mp hn).1
      refine ⟨rfl, ?_⟩
      refine yes ?_
      refine ⟨_, rfl, n, rfl, hpm n (List.mem_of_getElem? hn), ?_⟩
      refine ⟨_, hd3, ?_, ?_, fun b u hb => ?_⟩
      · rw [List.length_map, List.length_replicate, sizeLine_eq]
        omega
      · rw [upd_same, List.replicate_succ', List.map_append]
        rfl
      · rw [upd_ne (ne_of_none hb hD)]
        exact s3 _ _ hb
    · rintro H3 ⟨hd3, s3⟩
      refine ⟨Dl, _, rfl, SqL.of hd3, ?_⟩
      rw [pall]
      exact q _ s3
theorem ok_pol {f fS fN fB : Addr} {fd fdS fdN fdB : FuncData} (D : Dfn K mg "is_poly" sis_poly pis_poly f fd) (B : Bi mg) (T : TP mg) (DS : Dfn K mg "is_numbers" sis_numbers pis_numbers fS fdS) (DN : Dfn K mg "is_number" sis_number pis_number fN fdN) (DB : Dfn K mg "is_between" sis_between pis_between fB fdB) :
    FnOk P w K mg base CX0 4 f fd pis_poly (spPol K) := by
  have GS : FnOk P w K mg base CX0 3 fS fdS pis_numbers (spNms K) := ok_nms DS B T DN DB
  have nd := scis_poly.nd
  obtain ⟨tm, hmr⟩ := T.mr
  refine D.F.ok scis_poly (fun vs H Q E h => ?_) (fun cdv A outer s H vs Q E hr h => ?_)
  · obtain ⟨a, l, rfl, _⟩ := h
    rfl
  · obtain ⟨a, l, rfl, hs, hpm, hz, hl, q⟩ := h
    refine ⟨_, pss_one (ps_ret (pe_and (pe_call GS hr (by rfl) DS.g DS.F.kp DS.b .nil pass0 (pa_cons (pv 0) (pa_cons (pe_op op_add (pe_glob (v := .int 60) rfl hmr ⟨_, rfl⟩) pe_int) pa_nil)))
      (pe_one (pe_or (pe_cmpR (op_eqD hr.units) (pv 0) (pe_tup pa_nil) (nomark _))
        (pe_one (pe_cmpR op_ne (pe_ix ix_tup (pv 0) (pe_un un_neg pe_int) (fun _ _ => rfl)) pe_int (nomark _))))))), ?_⟩
    refine ⟨_, rfl, _, _, rfl, rfl, a, l, 61, rfl, hs, hpm, by omega, by decide, fun H1 s1 => ?_⟩
    refine ⟨_, rfl, ?_⟩
    refine iteT ?_
    have hs1 := Same.seqT s1 hs
    refine ⟨_, rfl, Nat.zero_le _, fun z nz => ?_⟩
    have s2 : Same H1 (upd H1 z (.tup [])) := Same.new nz
    have hs2 := Same.seqT s2 hs1
    refine ⟨.tuple (dI l), .tuple (dI []), .tup hs2 (dI_all _ _ _), .tup (.inl (.inl upd_same)) .nil, dI_shaped (by omega), dI_shaped (by decide), ?_⟩
    rw [dI_eqvT]
    refine ⟨_, rfl, ?_⟩
    by_cases h0 : l = []
    · rw [decide_eq_true h0]
      refine iteT ?_
      exact q _ (s1.trans s2)
    · rw [decide_eq_false h0]
      refine iteF ?_
      have hl0 : 0 < l.length := List.length_pos_iff.mpr h0
      have hlast : l.getD (l.length - 1) 0 ≠ 0 := hz.elim (fun e => absurd e h0) id
      refine ⟨_, rfl, _, rfl, a, _, _, _, rfl, rfl, hs2, plast hl0, rfl, ?_⟩
      show Q (V.bl (!decide (V.int ((l.getD (l.length - 1) 0 : Nat) : Int) = V.int 0))) _
      rw [decide_eq_false (show ¬ V.int ((l.getD (l.length - 1) 0 : Nat) : Int) = V.int 0 from fun e => hlast (by injection e with e; omega))]
      exact q _ (s1.trans s2)
end
/-! ### what the law compares -/
theorem gz00 {R : Type} [Po.Fd R] : (0 : R) + 0 = 0 := by grind
theorem gz0 : (0 : F) + 0 = 0 := gz00
theorem I_nil {f : Po.Q F} (h : Po.I (Po.One Po.nil) f) : ∀ k, f k = 0 := by
  induction h with
  | base e => intro k; rw [e]; rfl
  | zero => intro k; rfl
  | add _ _ a b => intro k; show _ + _ = _; rw [a, b]; exact gz0
  | smul x _ a => intro k; show x * _ = _; rw [a]; exact Lean.Grind.Semiring.mul_zero _
  | sh _ a => intro k; cases k with
    | zero => rfl
    | succ k => exact a k
theorem cf_nil : cf [] = Po.nil := by
  funext k
  exact cf_far (Nat.zero_le _)
theorem last_ne {G : List Nat} (hp : Pm G) (hz : NoZ G) (h : G ≠ []) : cf G (G.length - 1) ≠ 0 := c_ne (hp.at _) (hz.elim (fun e => absurd e h) id)
theorem zero_of {G : List Nat} (hp : Pm G) (hz : NoZ G) (h : ∀ k, cf G k = 0) : G = [] := Classical.byContradiction fun hn => last_ne hp hz hn (h _)
theorem scl_pm (r : Nat) (l : List Nat) : Pm (scl r l) := fun n hn => by
  obtain ⟨m, _, rfl⟩ := List.mem_map.mp hn
  exact md_lt _
theorem scl_len (r : Nat) (l : List Nat) : (scl r l).length = l.length := List.length_map _
theorem cf_scl (r : Nat) (l : List Nat) : cf (scl r l) = Po.smul (c (r : Nat)) (cf l) := by
  funext k
  show c (((scl r l).getD k 0 : Nat) : Int) = c (r : Nat) * c ((l.getD k 0 : Nat) : Int)
  by_cases h : k < l.length
  · have e : (scl r l)[k]? = some (md ((l.getD k 0 : Nat) * (r : Int))) := by
      unfold scl
      rw [List.getElem?_map, pg_at h]
      rfl
    rw [List.getD_eq_getElem?_getD, e, Option.getD_some, c_md, c_mul]
    exact Lean.Grind.CommSemiring.mul_comm _ _
  · rw [List.getD_eq_getElem?_getD, List.getElem?_eq_none (by rw [scl_len]; omega), List.getD_eq_getElem?_getD, List.getElem?_eq_none (by omega)]
    exact (Lean.Grind.Semiring.mul_zero _).symm
theorem scl_monic {r : Nat} {G : List Nat} (hG : G ≠ []) (h : c (r : Nat) * c (G.getD (G.length - 1) 0 : Nat) = 1) : Po.Monic (G.length - 1) (cf (scl r G)) := by
  have hl : 0 < G.length := List.length_pos_iff.mpr hG
  rw [cf_scl]
  refine ⟨h, fun k hk => ?_⟩
  show c (r : Nat) * cf G k = 0
  rw [cf_far (by omega)]
  exact Lean.Grind.Semiring.mul_zero _
theorem unit_of {r : Nat} {x : F} (h : c (r : Nat) * x = 1) : c (r : Nat) ≠ 0 := fun e => by
  rw [e] at h
  have h2 : (0 : F) * x = 0 := Lean.Grind.Semiring.zero_mul _
  exact Po.Fd.ne (h.symm.trans h2)
/-- two monic lists, each in the other's ideal -/
theorem mono_eq {X Y : List Nat} {n m : Nat} (pX : Pm X) (pY : Pm Y) (lX : X.length = n + 1) (lY : Y.length = m + 1) (mX : Po.Monic n (cf X)) (mY : Po.Monic m (cf Y)) (h1 : Po.I (Po.One (cf Y)) (cf X)) (h2 : Po.I (Po.One (cf X)) (cf Y)) : X = Y := by
  have e := Po.same mX mY h1 h2
  have hnm : n = m := by
    rcases Nat.lt_trichotomy n m with h | h | h
    · have a := mX.2 m h
      rw [e, mY.1] at a
      exact absurd a Po.Fd.ne
    · exact h
    · have a := mY.2 n h
      rw [← e, mX.1] at a
      exact absurd a Po.Fd.ne
  exact cf_eq pX pY (by omega) e
theorem of_smul {A : Po.Q F} {r : F} (hr : r ≠ 0) : Po.I (Po.One (Po.smul r A)) A := Po.I.cancel hr (.base rfl)
/-- a list of the ideals of A, made monic, is the monic one of A -/
theorem mon_eq {A G M : List Nat} {l : Nat} (pA : Pm A) (hA : A ≠ []) (hl : c (l : Nat) * c (A.getD (A.length - 1) 0 : Nat) = 1) (U : GcdP A [] G) (hM : Mon G M) : M = scl l A := by
  have i1 : Po.I (Po.One (cf A)) (cf G) := U.i.of fun f e => by
    rcases e with e | e
    · rw [e]; exact .base rfl
    · exact Po.I.nil fun k => by rw [e]; exact cf_far (Nat.zero_le _)
  rcases hM with ⟨rfl, rfl⟩ | ⟨hG, r, hr, rfl⟩
  · exfalso
    have h0 := I_nil (by rw [← cf_nil]; exact U.a)
    have hlA : cf A (A.length - 1) ≠ 0 := fun e => by
      have e2 : c (A.getD (A.length - 1) 0 : Nat) = 0 := e
      rw [e2] at hl
      have h2 : c (l : Nat) * (0 : F) = 0 := Lean.Grind.Semiring.mul_zero _
      exact Po.Fd.ne (hl.symm.trans h2)
    exact hlA (h0 _)
  · have lG : 0 < G.length := List.length_pos_iff.mpr hG
    have lA : 0 < A.length := List.length_pos_iff.mpr hA
    refine mono_eq (scl_pm r G) (scl_pm l A) (n := G.length - 1) (m := A.length - 1) (by rw [scl_len]; omega) (by rw [scl_len]; omega) (scl_monic hG hr) (scl_monic hA hl) ?_ ?_
    · rw [cf_scl, cf_scl]
      exact Po.I.smul _ (i1.of fun f e => by rw [e]; exact of_smul (unit_of hl))
    · rw [cf_scl, cf_scl]
      exact Po.I.smul _ (U.a.of fun f e => by rw [e]; exact of_smul (unit_of hr))
theorem gcd_nil {G M : List Nat} (U : GcdP [] [] G) (hM : Mon G M) : M = [] := by
  have h0 : ∀ k, cf G k = 0 := I_nil (U.i.of fun f e => by
    rcases e with e | e
    · exact Po.I.nil fun k => by rw [e]; exact cf_far (Nat.zero_le _)
    · exact Po.I.nil fun k => by rw [e]; exact cf_far (Nat.zero_le _))
  have hG := zero_of U.pm U.nz h0
  rcases hM with ⟨_, h⟩ | ⟨h, _⟩
  · exact h
  · exact absurd hG h
def mc (l : List Nat) : List F := l.map fun r => c (r : Nat)
theorem br_perm {l m : List Nat} (h : l.Perm m) : br l = br m := by
  refine cf_eq (br_pm l) (br_pm m) (by rw [br_len, br_len, h.length_eq]) ?_
  rw [cf_br, cf_br]
  exact Po.Ls_perm (h.map _) _
end K07
namespace K07
open PySem L2 Pg RZ
/-! ### the program: poly_sum, poly_product -/
abbrev spoly_sum : Stmt := top 15
abbrev npoly_sum : List Str := ["poly", "other", "numbers", "k", "number"]
abbrev ppoly_sum : List Str := ["poly", "other"]
theorem scpoly_sum : FnScope npoly_sum ppoly_sum (defScope spoly_sum) := ⟨rfl, rfl, rfl, by decide +kernel, rfl, by decide +kernel, by decide +kernel⟩
def spSum (K : PySem.W.Frag) : Sp := fun vs H Q _ => ∃ (a b : Addr) (A C : List Nat), vs = [.ref a, .ref b] ∧ SqT K H a (bV A) ∧ SqT K H b (bV C) ∧ Pm A ∧ Pm C ∧ A.length ≤ 1000 ∧ C.length ≤ 1000 ∧
  ∀ (S : List Nat) (p : Addr) (H' : Hp), Pm S → NoZ S → cf S = Po.add (cf A) (cf C) → S.length ≤ max A.length C.length → Same H H' → H p = none → H' p = some (.tup (bV S)) → Q (.ref p) H'
abbrev spoly_product : Stmt := top 17
abbrev npoly_product : List Str := ["poly", "other", "numbers", "k", "factor", "j", "number"]
abbrev ppoly_product : List Str := ["poly", "other"]
theorem scpoly_product : FnScope npoly_product ppoly_product (defScope spoly_product) := ⟨rfl, rfl, rfl, by decide +kernel, rfl, by decide +kernel, by decide +kernel⟩
def spPrd (K : PySem.W.Frag) : Sp := fun vs H Q _ => ∃ (a b : Addr) (A C : List Nat), vs = [.ref a, .ref b] ∧ SqT K H a (bV A) ∧ SqT K H b (bV C) ∧ Pm A ∧ Pm C ∧ A.length ≤ 400 ∧ C.length ≤ 400 ∧
  ∀ (S : List Nat) (p : Addr) (H' : Hp), Pm S → NoZ S → cf S = Po.mul (A.map Pk.cn) (cf C) → S.length ≤ A.length + C.length → Same H H' → H p = none → H' p = some (.tup (bV S)) → Q (.ref p) H'
theorem bV_rep (n : Nat) : (List.replicate n [V.int 0]).flatten = bV (List.replicate n 0) := by
  induction n with
  | zero => rfl
  | succ n ih => rw [List.replicate_succ, List.flatten_cons, ih]; rfl
theorem pm_rep (n : Nat) : Pm (List.replicate n 0) := fun m hm => by rw [List.eq_of_mem_replicate hm]; omega
theorem pm_app {l m : List Nat} (h : Pm l) (h2 : Pm m) : Pm (l ++ m) := fun n hn => by
  rcases List.mem_append.mp hn with hn | hn
  · exact h n hn
  · exact h2 n hn
theorem getD_rep (n k : Nat) : (List.replicate n 0).getD k 0 = 0 := by
  rw [List.getD_eq_getElem?_getD, List.getElem?_replicate]
  split <;> rfl
theorem getD_app_rep (l : List Nat) (n k : Nat) : (l ++ List.replicate n 0).getD k 0 = l.getD k 0 := by
  rw [List.getD_eq_getElem?_getD, List.getD_eq_getElem?_getD]
  by_cases h : k < l.length
  · rw [List.getElem?_append_left h]
  · rw [List.getElem?_append_right (by omega), List.getElem?_eq_none (show l.length ≤ k by omega), List.getElem?_replicate]
    split <;> rfl
/-- the first k numbers have been added -/
def Addd (L0 C : List Nat) (k : Nat) (l : List Nat) : Prop := l.length = L0.length ∧ Pm l ∧ ∀ j, l.getD j 0 = if j < k then md ((L0.getD j 0 : Nat) + (C.getD j 0 : Nat)) else L0.getD j 0
theorem Addd.next {L0 C l : List Nat} {k : Nat} (h : Addd L0 C k l) (hk : k < L0.length) : Addd L0 C (k + 1) (l.set k (md ((l.getD k 0 : Nat) + (C.getD k 0 : Nat)))) := by
  obtain ⟨h1, h2, h3⟩ := h
  refine ⟨by rw [List.length_set, h1], pm_set h2 (md_lt _), fun j => ?_⟩
  rw [getD_set (by omega)]
  by_cases e : j = k
  · subst e
    rw [if_pos rfl, if_pos (by omega), h3, if_neg (by omega)]
  · rw [if_neg e, h3]
    by_cases e2 : j < k
    · rw [if_pos e2, if_pos (by omega)]
    · rw [if_neg e2, if_neg (by omega)]
theorem gadd0 {R : Type} [Po.Fd R] (a : R) : a = a + 0 := by grind
theorem Addd.cf {L0 C l : List Nat} (h : Addd L0 C C.length l) : Pg.cf l = Po.add (Pg.cf L0) (Pg.cf C) := by
  funext j
  show c ((l.getD j 0 : Nat) : Int) = Pg.cf L0 j + Pg.cf C j
  rw [h.2.2 j]
  by_cases e : j < C.length
  · rw [if_pos e, c_md, c_add]
    rfl
  · rw [if_neg e, cf_far (l := C) (by omega)]
    exact gadd0 _
/-- base with f times the first j of C, moved by k -/
def Prdd (L0 C : List Nat) (k f j : Nat) (l : List Nat) : Prop := l.length = L0.length ∧ Pm l ∧ ∀ i, l.getD i 0 = if k ≤ i ∧ i < k + j then md ((L0.getD i 0 : Nat) + (f : Nat) * (C.getD (i - k) 0 : Nat)) else L0.getD i 0
theorem Prdd.next {L0 C l : List Nat} {k f j : Nat} (h : Prdd L0 C k f j l) (hk : k + j < L0.length) : Prdd L0 C k f (j + 1) (l.set (k + j) (md ((l.getD (k + j) 0 : Nat) + (f : Nat) * (C.getD j 0 : Nat)))) := by
  obtain ⟨h1, h2, h3⟩ := h
  refine ⟨by rw [List.length_set, h1], pm_set h2 (md_lt _), fun i => ?_⟩
  rw [getD_set (by omega)]
  by_cases e : i = k + j
  · subst e
    rw [if_pos rfl, if_pos (by omega), h3, if_neg (by omega), show k + j - k = j by omega]
  · rw [if_neg e, h3]
    by_cases e2 : k ≤ i ∧ i < k + j
    · rw [if_pos e2, if_pos (by omega)]
    · rw [if_neg e2, if_neg (by omega)]
theorem gmul0 {R : Type} [Po.Fd R] (a f : R) : a = a + f * 0 := by grind
theorem Prdd.cf {L0 C l : List Nat} {k f : Nat} (h : Prdd L0 C k f C.length l) : Pg.cf l = Po.add (Pg.cf L0) (Po.smul (Pk.cn f) (Pl.sk k (Pg.cf C))) := by
  funext j
  show c ((l.getD j 0 : Nat) : Int) = Pg.cf L0 j + Pk.cn f * Pl.sk k (Pg.cf C) j
  rw [h.2.2 j, Px.sk_at]
  by_cases e : k ≤ j ∧ j < k + C.length
  · rw [if_pos e, if_neg (by omega), c_md, c_add, c_mul]
    rfl
  · rw [if_neg e]
    by_cases e2 : j < k
    · rw [if_pos e2]
      exact gmul0 _ _
    · rw [if_neg e2, cf_far (l := C) (by omega)]
      exact gmul0 _ _
theorem mul_snoc (f : Po.Q F) : ∀ (us : List F) (u : F), Po.mul (us ++ [u]) f = Po.add (Po.mul us f) (Po.smul u (Pl.sk us.length f))
  | [], u => by
    show Po.add (Po.smul u f) (Po.sh Po.nil) = Po.add Po.nil (Po.smul u f)
    funext k
    have : Po.sh (Po.nil : Po.Q F) k = 0 := by cases k <;> rfl
    show u * f k + Po.sh Po.nil k = 0 + u * f k
    rw [this]
    have g : ∀ {R : Type} [Po.Fd R] (a : R), a + 0 = 0 + a := fun a => by grind
    exact g _
  | v :: us, u => by
    show Po.add (Po.smul v f) (Po.sh (Po.mul (us ++ [u]) f)) = Po.add (Po.add (Po.smul v f) (Po.sh (Po.mul us f))) (Po.smul u (Po.sh (Pl.sk us.length f)))
    rw [mul_snoc f us u, Po.sh_add, Po.sh_smul]
    funext k
    have g : ∀ {R : Type} [Po.Fd R] (a b d : R), a + (b + d) = (a + b) + d := fun a b d => by grind
    exact g _ _ _
section
variable {P : Program} {w : World} {K : PySem.W.Frag} {mg : Str → Option Value} {base : Heap}
theorem ok_sum {f fT : Addr} {fd fdT : FuncData} (D : Dfn K mg "poly_sum" spoly_sum ppoly_sum f fd) (B : Bi mg) (T : TP mg) (DT : Dfn K mg "trimmed" strimmed ptrimmed fT fdT) : FnOk P w K mg base CX0 2 f fd ppoly_sum (spSum K) := by
  have GT : FnOk P w K mg base CX0 1 fT fdT ptrimmed (spTrm K) := ok_trm DT B
  have nd := scpoly_sum.nd
  obtain ⟨tp, hp⟩ := T.pr
  refine D.F.ok scpoly_sum (fun vs H Q E h => ?_) (fun cdv Ar outer s H vs Q E hr h => ?_)
  · obtain ⟨a, b, A, C, rfl, _⟩ := h
    rfl
  · obtain ⟨a, b, A, C, rfl, ha, hb, hA, hC, la, lb, q⟩ := h
    refine ⟨_, pss_cons (ps_set (i := 2) nd rfl (.inl rfl) (pe_op op_cat (pe_callTy call_list_of (by rfl) B.list (by decide +kernel) (pa_cons (pv 0) pa_nil))
        (pe_op op_rep (pe_lst (pa_cons pe_int pa_nil)) (pe_op op_sub (pe_callB call_len_seq (by rfl) B.len PySem.boot_len (pa_cons (pv 1) pa_nil)) (pe_callB call_len_seq (by rfl) B.len PySem.boot_len (pa_cons (pv 0) pa_nil))))))
      (pss_cons (ps_for PassesOwn.never rfl (EnT.pi_enumT (by rfl) T.en (pa_cons (pv 1) pa_nil)) (pg_tup rfl (pgs_cons (pg_name (i := 3) nd rfl (.inl rfl)) (pgs_cons (pg_name (i := 4) nd rfl (.inl rfl)) pgs_nil)))
        (pss_one (ps_asg (pe_op op_mod (pe_op op_add (pe_ix ix_list (pv 2) (pv 3) (fun _ _ => rfl)) (pv 4)) (pe_glob (v := .int 2305843009213693951) rfl hp ⟨_, rfl⟩)) (pg_sub (pv 2) (pv 3) set_list))))
      (pss_one (ps_ret (pe_call GT hr (by rfl) DT.g DT.F.kp DT.b .nil pass0 (pa_cons (pv 2) pa_nil))))), ?_⟩
    refine ⟨_, rfl, a, _, rfl, .inr ha, fun lf nlf => ?_⟩
    have s1 : Same H (upd H lf (.lst (bV A))) := Same.new nlf
    have h1 : (upd H lf (.lst (bV A))) lf = some (.lst (bV A)) := upd_same
    generalize upd H lf (.lst (bV A)) = H1 at s1 h1
    refine ⟨by decide, fun z nz => ?_⟩
    have s2 : Same H1 (upd H1 z (.lst [.int 0])) := Same.new nz
    have hz2 : (upd H1 z (.lst [.int 0])) z = some (.lst [.int 0]) := upd_same
    have h12 := s2 _ _ h1
    generalize upd H1 z (.lst [.int 0]) = H2 at s2 hz2 h12
    have s12 := s1.trans s2
    refine ⟨_, rfl, b, _, rfl, .inr (Same.seqT s12 hb), _, rfl, a, _, rfl, .inr (Same.seqT s12 ha), _, _, rfl, rfl, z, _, _, rfl, rfl, hz2, ?_, ?_, ?_, fun zp nzp => ?_⟩
    · rw [bV_len, bV_len]; omega
    · rw [bV_len, bV_len]; omega
    · rw [bV_len, bV_len, sizeLine_eq]
      show 1 * _ ≤ _
      omega
    rw [bV_rep, bV_len, bV_len]
    have s3 : Same H2 (upd H2 zp (.lst (bV (List.replicate (((C.length : Nat) : Int) - ((A.length : Nat) : Int)).toNat 0)))) := Same.new nzp
    have hzp3 : (upd H2 zp (.lst (bV (List.replicate (((C.length : Nat) : Int) - ((A.length : Nat) : Int)).toNat 0)))) zp = some (.lst (bV (List.replicate (C.length - A.length) 0))) := by
      rw [upd_same, show (((C.length : Nat) : Int) - ((A.length : Nat) : Int)).toNat = C.length - A.length by omega]
    have h13 := s3 _ _ h12
    generalize upd H2 zp (.lst (bV (List.replicate (((C.length : Nat) : Int) - ((A.length : Nat) : Int)).toNat 0))) = H3 at s3 hzp3 h13
    refine ⟨lf, zp, _, _, rfl, rfl, h13, hzp3, ?_, fun nu nnu => ?_⟩
    · rw [bV_len, bV_len, List.length_replicate, sizeLine_eq]
      omega
    have s13 := s12.trans s3
    have nnuH : H nu = none := s13.free nnu
    rw [bV_append]
    have s4 : Same H (upd H3 nu (.lst (bV (A ++ List.replicate (C.length - A.length) 0)))) := s13.trans (Same.new nnu)
    have hnu4 : (upd H3 nu (.lst (bV (A ++ List.replicate (C.length - A.length) 0)))) nu = some (.lst (bV (A ++ List.replicate (C.length - A.length) 0))) := upd_same
    generalize upd H3 nu (.lst (bV (A ++ List.replicate (C.length - A.length) 0))) = H4 at s4 hnu4
    have hL0 : Pm (A ++ List.replicate (C.length - A.length) 0) := pm_app hA (pm_rep _)
    have lL0 : (A ++ List.replicate (C.length - A.length) 0).length = max A.length C.length := by rw [List.length_append, List.length_replicate]; omega
    have cL0 : cf (A ++ List.replicate (C.length - A.length) 0) = cf A := by
      funext k
      show c _ = c _
      rw [getD_app_rep]
    generalize A ++ List.replicate (C.length - A.length) 0 = L0 at hnu4 hL0 lL0 cL0
    refine ⟨_, rfl, b, _, rfl, Same.seqT s4 hb, ?_⟩
    refine EnT.for_enT (fun k σ H6 => ∃ (L' : List Nat) (v3 v4 : Option V), σ = [some (.ref a), some (.ref b), some (.ref nu), v3, v4] ∧ Same H H6 ∧ H6 nu = some (.lst (bV L')) ∧ Addd L0 C k L')
      ⟨L0, none, none, rfl, s4, hnu4, rfl, hL0, fun j => by rw [if_neg (by omega)]⟩ (fun k σ H6 h => by obtain ⟨L', v3, v4, _, s6, _⟩ := h; exact Same.seqT s6 hb) ?_ ?_
    · rintro k x Tt σ H6 hx ⟨L', v3, v4, rfl, s6, hl6, hT⟩ nT
      obtain ⟨num, hn, rfl⟩ := bV_get hx
      have hk : k < C.length := (List.getElem?_eq_some_iff.mp hn).1
      have hnum : num = C.getD k 0 := by rw [List.getD_eq_getElem?_getD, hn]; rfl
      have s7 := s6.trans (Same.new (o := .tup [.int (k : Nat), .int (num : Nat)]) nT)
      have hl7 := (Same.new (o := .tup [.int (k : Nat), .int (num : Nat)]) nT) _ _ hl6
      refine ⟨Tt, [V.int (k : Int), V.int (num : Int)], rfl, .inl (.inl upd_same), rfl, _, _, rfl, _, _, rfl, rfl, ?_⟩
      generalize upd H6 Tt (.tup [.int (k : Nat), .int (num : Nat)]) = H7 at s7 hl7
      have hL'len := hT.1
      refine ⟨_, rfl, _, rfl, nu, _, _, _, rfl, rfl, SqL.of hl7, at_of (j := k) rfl (bV_at (pg_at (by omega))), _, rfl, _, _, rfl, rfl, _, _, rfl, rfl, (by show (0 : Int) < 2305843009213693951; decide), ?_⟩
      refine ⟨_, rfl, _, rfl, nu, _, _, k, rfl, rfl, hl7, ?_, ?_⟩
      · rw [bV_len]
        exact pix rfl (by omega)
      refine ⟨_, _, _, rfl, sameF s7 nnuH, ?_, hT.next (by omega)⟩
      rw [upd_same]
      show some (HO.lst ((bV L').set k (V.int ((((L'.getD k 0 : Nat) : Int) + (num : Int)) % 2305843009213693951)))) = _
      rw [← md_int, pbV_set, hnum]
    · rintro σ H6 ⟨L', v3, v4, rfl, s6, hl6, hT⟩
      rw [bV_len] at hT
      have hcf := hT.cf
      refine ⟨_, rfl, nu, L', rfl, SqL.of hl6, by rw [hT.1]; omega, fun S p H7 hS s7 np hp2 => ?_⟩
      obtain ⟨r1, r2, r3, r4⟩ := hS.facts hT.2.1
      exact q S p H7 r1 r2 (by rw [r3, hcf, cL0]) (by rw [hT.1] at r4; omega) (s6.trans s7) (s6.free np) hp2
theorem ok_prd {f fT : Addr} {fd fdT : FuncData} (D : Dfn K mg "poly_product" spoly_product ppoly_product f fd) (B : Bi mg) (T : TP mg) (DT : Dfn K mg "trimmed" strimmed ptrimmed fT fdT) : FnOk P w K mg base CX0 2 f fd ppoly_product (spPrd K) := by
  have GT : FnOk P w K mg base CX0 1 fT fdT ptrimmed (spTrm K) := ok_trm DT B
  have nd := scpoly_product.nd
  obtain ⟨tp, hp⟩ := T.pr
  refine D.F.ok scpoly_product (fun vs H Q E h => ?_) (fun cdv Ar outer s H vs Q E hr h => ?_)
  · obtain ⟨a, b, A, C, rfl, _⟩ := h
    rfl
  · obtain ⟨a, b, A, C, rfl, ha, hb, hA, hC, la, lb, q⟩ := h
    refine ⟨_, pss_cons (ps_set (i := 2) nd rfl (.inl rfl) (pe_op op_rep (pe_lst (pa_cons pe_int pa_nil)) (pe_op op_add (pe_callB call_len_seq (by rfl) B.len PySem.boot_len (pa_cons (pv 0) pa_nil)) (pe_callB call_len_seq (by rfl) B.len PySem.boot_len (pa_cons (pv 1) pa_nil)))))
      (pss_cons (ps_for PassesOwn.never rfl (EnT.pi_enumT (by rfl) T.en (pa_cons (pv 0) pa_nil)) (pg_tup rfl (pgs_cons (pg_name (i := 3) nd rfl (.inl rfl)) (pgs_cons (pg_name (i := 4) nd rfl (.inl rfl)) pgs_nil)))
        (pss_one (ps_for PassesOwn.never rfl (EnT.pi_enumT (by rfl) T.en (pa_cons (pv 1) pa_nil)) (pg_tup rfl (pgs_cons (pg_name (i := 5) nd rfl (.inl rfl)) (pgs_cons (pg_name (i := 6) nd rfl (.inl rfl)) pgs_nil)))
          (pss_one (ps_asg (pe_op op_mod (pe_op op_add (pe_ix ix_list (pv 2) (pe_op op_add (pv 3) (pv 5)) (fun _ _ => rfl)) (pe_op op_mulW (pv 4) (pv 6))) (pe_glob (v := .int 2305843009213693951) rfl hp ⟨_, rfl⟩)) (pg_sub (pv 2) (pe_op op_add (pv 3) (pv 5)) set_list))))))
      (pss_one (ps_ret (pe_call GT hr (by rfl) DT.g DT.F.kp DT.b .nil pass0 (pa_cons (pv 2) pa_nil))))), ?_⟩
    refine ⟨by decide, fun z nz => ?_⟩
    have s2 : Same H (upd H z (.lst [.int 0])) := Same.new nz
    have hz2 : (upd H z (.lst [.int 0])) z = some (.lst [.int 0]) := upd_same
    generalize upd H z (.lst [.int 0]) = H2 at s2 hz2
    refine ⟨_, rfl, a, _, rfl, .inr (Same.seqT s2 ha), _, rfl, b, _, rfl, .inr (Same.seqT s2 hb), _, _, rfl, rfl, z, _, _, rfl, rfl, hz2, ?_, ?_, ?_, fun nu nnu => ?_⟩
    · rw [bV_len, bV_len]; omega
    · rw [bV_len, bV_len]; omega
    · rw [bV_len, bV_len, sizeLine_eq]
      show 1 * _ ≤ _
      omega
    have nnuH : H nu = none := s2.free nnu
    rw [bV_rep, bV_len, bV_len, show (((A.length : Nat) : Int) + ((C.length : Nat) : Int)).toNat = A.length + C.length by omega]
    have s4 : Same H (upd H2 nu (.lst (bV (List.replicate (A.length + C.length) 0)))) := s2.trans (Same.new nnu)
    have hnu4 : (upd H2 nu (.lst (bV (List.replicate (A.length + C.length) 0)))) nu = some (.lst (bV (List.replicate (A.length + C.length) 0))) := upd_same
    generalize upd H2 nu (.lst (bV (List.replicate (A.length + C.length) 0))) = H4 at s4 hnu4
    refine ⟨_, rfl, a, _, rfl, Same.seqT s4 ha, ?_⟩
    refine EnT.for_enT (fun k σ H6 => ∃ (L : List Nat) (v3 v4 v5 v6 : Option V), σ = [some (.ref a), some (.ref b), some (.ref nu), v3, v4, v5, v6] ∧ Same H H6 ∧ H6 nu = some (.lst (bV L)) ∧ L.length = A.length + C.length ∧ Pm L ∧ cf L = Po.mul ((A.take k).map Pk.cn) (cf C))
      ⟨List.replicate (A.length + C.length) 0, none, none, none, none, rfl, s4, hnu4, List.length_replicate, pm_rep _, Hp.cf_z _⟩ (fun k σ H6 h => by obtain ⟨L', v3, v4, v5, v6, _, s6, _⟩ := h; exact Same.seqT s6 ha) ?_ ?_
    · rintro k x Tt σ H6 hx ⟨L, v3, v4, v5, v6, rfl, s6, hl6, lL, hLm, hLc⟩ nT
      obtain ⟨fac, hn, rfl⟩ := bV_get hx
      have hk : k < A.length := (List.getElem?_eq_some_iff.mp hn).1
      have hfP := hA fac (List.mem_of_getElem? hn)
      have s7 := s6.trans (Same.new (o := .tup [.int (k : Nat), .int (fac : Nat)]) nT)
      have hl7 := (Same.new (o := .tup [.int (k : Nat), .int (fac : Nat)]) nT) _ _ hl6
      refine ⟨Tt, [V.int (k : Int), V.int (fac : Int)], rfl, .inl (.inl upd_same), rfl, _, _, rfl, _, _, rfl, rfl, ?_⟩
      generalize upd H6 Tt (.tup [.int (k : Nat), .int (fac : Nat)]) = H7 at s7 hl7
      refine ⟨_, rfl, b, _, rfl, Same.seqT s7 hb, ?_⟩
      refine EnT.for_enT (fun j σ H8 => ∃ (L' : List Nat) (v5 v6 : Option V), σ = [some (.ref a), some (.ref b), some (.ref nu), some (.int (k : Nat)), some (.int (fac : Nat)), v5, v6] ∧ Same H H8 ∧ H8 nu = some (.lst (bV L')) ∧ Prdd L C k fac j L')
        ⟨L, v5, v6, rfl, s7, hl7, rfl, hLm, fun i => by rw [if_neg (by omega)]⟩ (fun k σ H6 h => by obtain ⟨L', v5, v6, _, s6, _⟩ := h; exact Same.seqT s6 hb) ?_ ?_
      · rintro j x T2 σ H8 hx ⟨L', v5, v6, rfl, s8, hl8, hT⟩ nT2
        obtain ⟨num, hn2, rfl⟩ := bV_get hx
        have hj : j < C.length := (List.getElem?_eq_some_iff.mp hn2).1
        have hnum : num = C.getD j 0 := by rw [List.getD_eq_getElem?_getD, hn2]; rfl
        have hnP := hC num (List.mem_of_getElem? hn2)
        have s9 := s8.trans (Same.new (o := .tup [.int (j : Nat), .int (num : Nat)]) nT2)
        have hl9 := (Same.new (o := .tup [.int (j : Nat), .int (num : Nat)]) nT2) _ _ hl8
        refine ⟨T2, [V.int (j : Int), V.int (num : Int)], rfl, .inl (.inl upd_same), rfl, _, _, rfl, _, _, rfl, rfl, ?_⟩
        generalize upd H8 T2 (.tup [.int (j : Nat), .int (num : Nat)]) = H9 at s9 hl9
        have hL'len := hT.1
        refine ⟨_, rfl, _, rfl, _, rfl, _, _, rfl, rfl, nu, _, _, _, rfl, rfl, SqL.of hl9, at_of (j := k + j) (by omega) (bV_at (pg_at (by omega))), _, rfl, _, rfl, _, _, rfl, rfl, wide_mul (a := 62) (b := 62) (by omega) (by omega) (by decide) (by decide) (by decide), _, _, rfl, rfl, _, _, rfl, rfl, (by show (0 : Int) < 2305843009213693951; decide), ?_⟩
        refine ⟨_, rfl, _, rfl, _, rfl, _, _, rfl, rfl, nu, _, _, k + j, rfl, rfl, hl9, ?_, ?_⟩
        · rw [bV_len]
          exact pix (by omega) (by omega)
        refine ⟨_, _, _, rfl, sameF s9 nnuH, ?_, hT.next (by omega)⟩
        rw [upd_same]
        show some (HO.lst ((bV L').set (k + j) (V.int ((((L'.getD (k + j) 0 : Nat) : Int) + (fac : Int) * (num : Int)) % 2305843009213693951)))) = _
        rw [← md_int, pbV_set, hnum]
      · rintro σ H8 ⟨L', v5, v6, rfl, s8, hl8, hT⟩
        rw [bV_len] at hT
        refine ⟨L', _, _, _, _, rfl, s8, hl8, by rw [hT.1, lL], hT.2.1, ?_⟩
        rw [hT.cf, hLc, take_more hn, List.map_append]
        show _ = Po.mul ((A.take k).map Pk.cn ++ [Pk.cn fac]) (cf C)
        rw [mul_snoc, List.length_map, List.length_take, Nat.min_eq_left (by omega)]
    · rintro σ H6 ⟨L, v3, v4, v5, v6, rfl, s6, hl6, lL, hLm, hLc⟩
      rw [bV_len, List.take_length] at hLc
      refine ⟨_, rfl, nu, L, rfl, SqL.of hl6, by omega, fun S p H7 hS s7 np hp2 => ?_⟩
      obtain ⟨r1, r2, r3, r4⟩ := hS.facts hLm
      exact q S p H7 r1 r2 (by rw [r3, hLc]) (by omega) (s6.trans s7) (s6.free np) hp2
end
end K07
namespace K07
open PySem L2 Pg RZ
/-! ### the program: packed, unpacked, high_powers -/
structure TK (mg : Str → Option Value) : Prop where
  rm : ∃ t, mg "ROOM" = some (.int 150 t)
  ma : ∃ t, mg "ROOM_MASK" = some (.int 1427247692705959881058285969449495136382746623 t)
abbrev spacked : Stmt := top 21
abbrev npacked : List Str := ["numbers", "total", "number"]
abbrev ppacked : List Str := ["numbers"]
theorem scpacked : FnScope npacked ppacked (defScope spacked) := ⟨rfl, rfl, rfl, by decide +kernel, rfl, by decide +kernel, by decide +kernel⟩
def spPkd (K : PySem.W.Frag) : Sp := fun vs H Q _ => ∃ (a : Addr) (l : List Nat), vs = [.ref a] ∧ SqL K H a (bV l) ∧ Pm l ∧ l.length ≤ 100 ∧ Q (.int (Pk.pkv l : Nat)) H
abbrev sunpacked : Stmt := top 22
abbrev nunpacked : List Str := ["total", "many", "k"]
abbrev punpacked : List Str := ["total", "many"]
theorem scunpacked : FnScope nunpacked punpacked (defScope sunpacked) := ⟨rfl, rfl, rfl, by decide +kernel, rfl, by decide +kernel, by decide +kernel⟩
def spUnp : Sp := fun vs H Q _ => ∃ (t m : Nat), vs = [.int t, .int m] ∧ m ≤ 100 ∧ ∀ (p : Addr) (H' : Hp), Same H H' → H p = none → H' p = some (.lst (bV (Pk.un t m))) → Q (.ref p) H'
abbrev shigh_powers : Stmt := top 23
abbrev nhigh_powers : List Str := ["poly", "degree", "first", "rows", "row", "_", "top", "number", "low"]
abbrev phigh_powers : List Str := ["poly"]
theorem schigh_powers : FnScope nhigh_powers phigh_powers (defScope shigh_powers) := ⟨rfl, rfl, rfl, by decide +kernel, rfl, by decide +kernel, by decide +kernel⟩
def spHig (K : PySem.W.Frag) : Sp := fun vs H Q _ => ∃ (a : Addr) (l : List Nat) (d : Nat), vs = [.ref a] ∧ SqT K H a (bV l) ∧ Pm l ∧ l.length = d + 1 ∧ 0 < d ∧ d ≤ 60 ∧
  ∀ (p : Addr) (H' : Hp), Same H H' → H p = none → H' p = some (.lst (bV ((Pk.rows (Pk.frst l) d (Pk.frst l)).map Pk.pkv))) → Q (.ref p) H'
theorem pk_le {l : List Nat} (h : Pm l) (hl : l.length ≤ 100) : Pk.pkv l < 2 ^ 15000 := by
  have h1 := Pk.pk_lt (l := l) (fun n hn => Nat.lt_trans (h n hn) (by decide))
  exact Nat.lt_of_lt_of_le h1 (Nat.pow_le_pow_right (by decide) (by omega))
theorem lt150 {n : Nat} (h : n < 2305843009213693951) : (n : Int) < 2 ^ 150 := Int.lt_trans (show (n : Int) < 2305843009213693951 by omega) (by decide)
theorem pm_drop {l : List Nat} (h : Pm l) (k : Nat) : Pm (l.drop k) := fun n hn => h n (List.mem_of_mem_drop hn)
theorem un_more (t m j : Nat) (h : j < m) : (Pk.un t m)[j]? = some (t / 2 ^ (150 * j) % 2 ^ 150 % 2305843009213693951) := by
  unfold Pk.un
  rw [List.getElem?_map, List.getElem?_range h]
  rfl
theorem dig_int (t j : Nat) : ((t : Int) / 2 ^ ((150 : Int) * ((0 : Int) + (j : Int))).toNat % 2 ^ 150 % 2305843009213693951) = ((t / 2 ^ (150 * j) % 2 ^ 150 % 2305843009213693951 : Nat) : Int) := by
  rw [show ((150 : Int) * ((0 : Int) + (j : Int))).toNat = 150 * j by omega, Int.natCast_emod, Int.natCast_emod, Int.natCast_ediv, Int.natCast_pow]
  rfl
section
variable {P : Program} {w : World} {K : PySem.W.Frag} {mg : Str → Option Value} {base : Heap}
theorem ok_pkd {f : Addr} {fd : FuncData} (D : Dfn K mg "packed" spacked ppacked f fd) (T : TP mg) (TT : TK mg) : FnOk P w K mg base CX0 1 f fd ppacked (spPkd K) := by
  have nd := scpacked.nd
  obtain ⟨tr, hrm⟩ := TT.rm
  refine D.F.ok scpacked (fun vs H Q E h => ?_) (fun cdv A outer s H vs Q E hr h => ?_)
  · obtain ⟨a, l, rfl, _⟩ := h
    rfl
  · obtain ⟨a, l, rfl, hs, hpm, hl, q⟩ := h
    refine ⟨_, pss_cons (ps_set (i := 1) nd rfl (.inl rfl) pe_int)
      (pss_cons (ps_for PassesOwn.never rfl (RT.pi_revA (by rfl) T.rev (pv 0)) (pg_name (i := 2) nd rfl (.inl rfl))
        (pss_one (ps_set (i := 1) nd rfl (.inl rfl) (pe_op op_orL (pe_op op_shlN (pv 1) (pe_glob (v := .int 150) rfl hrm ⟨_, rfl⟩)) (pv 2)))))
      (pss_one (ps_ret (pv 1)))), ?_⟩
    refine ⟨_, rfl, a, _, rfl, .inl ⟨hs, ?_⟩⟩
    refine RT.for_Itv (fun i σ H1 => H1 = H ∧ ∃ v2 : Option V, σ = [some (.ref a), some (.int (Pk.pkv (l.drop (l.length - i)) : Nat)), v2]) ⟨rfl, none, by rw [Nat.sub_zero, List.drop_length]; rfl⟩ (fun i σ H1 h => by rw [h.1]; exact hs) ?_ ?_
    · rintro i y σ H1 hi hy ⟨rfl, v2, rfl⟩
      rw [bV_len] at hi hy
      obtain ⟨n, hn, rfl⟩ := bV_get hy
      have hnP := hpm n (List.mem_of_getElem? hn)
      have e : Pk.pkv (l.drop (l.length - (i + 1))) = n + 2 ^ 150 * Pk.pkv (l.drop (l.length - i)) := by
        have hd : l.drop (l.length - (i + 1)) = n :: l.drop (l.length - i) := by
          rw [List.drop_eq_getElem_cons (by omega), show l.length - (i + 1) + 1 = l.length - i by omega]
          congr 1
          have := (List.getElem?_eq_some_iff.mp hn).2
          rw [← this]
          congr 1
          omega
        rw [hd]
        rfl
      have hb := pk_le (pm_drop hpm (l.length - i)) (by rw [List.length_drop]; omega)
      rw [e]
      generalize Pk.pkv (l.drop (l.length - i)) = z at hb
      refine ⟨_, rfl, z, 150, rfl, rfl, shl_ok (n := 15000) hb (by decide), _, rfl, (z : Int), (n : Int), 150, rfl, rfl, ⟨by omega, by omega, lt150 hnP⟩, rfl, some (.int n), ?_⟩
      show [_, some (V.int ((z : Int) * 2 ^ 150 + (n : Int))), _] = _
      rw [show ((n + 2 ^ 150 * z : Nat) : Int) = (z : Int) * 2 ^ 150 + (n : Int) by rw [Int.natCast_add, Int.natCast_mul, Int.natCast_pow, Int.mul_comm, Int.add_comm]; rfl]
    · rintro σ H1 ⟨rfl, v2, rfl⟩
      rw [bV_len, Nat.sub_self, List.drop_zero]
      exact ⟨_, rfl, q⟩
theorem ok_unp {f : Addr} {fd : FuncData} (D : Dfn K mg "unpacked" sunpacked punpacked f fd) (B : Bi mg) (T : TP mg) (TT : TK mg) : FnOk P w K mg base CX0 1 f fd punpacked spUnp := by
  have nd := scunpacked.nd
  obtain ⟨tr, hrm⟩ := TT.rm
  obtain ⟨tm, hmk⟩ := TT.ma
  obtain ⟨tp, hp⟩ := T.pr
  refine D.F.ok scunpacked (fun vs H Q E h => ?_) (fun cdv A outer s H vs Q E hr h => ?_)
  · obtain ⟨t, m, rfl, _⟩ := h
    rfl
  · obtain ⟨t, m, rfl, hm, q⟩ := h
    refine ⟨_, pss_one (ps_ret (pe_lc (own := [("k", 2)]) (g := gName 2) (tt := tYes) rfl nd
          (pi_range1 (by rfl) B.range (pa_cons (pv 1) pa_nil))
          (blkOk_by (N := nunpacked) (sc := defScope sunpacked) (by decide +kernel)) (fun _ _ _ _ _ => pg_name (i := 2) nd rfl (.inl rfl)) (fun _ _ _ _ _ => pts_nil)
          (fun _ _ _ _ _ => pe_op op_mod (pe_op op_andM (pe_op op_shr (pv 0) (pe_op op_mulW (pe_glob (v := .int 150) rfl hrm ⟨_, rfl⟩) (pv 2))) (pe_glob (v := .int 1427247692705959881058285969449495136382746623) rfl hmk ⟨_, rfl⟩)) (pe_glob (v := .int 2305843009213693951) rfl hp ⟨_, rfl⟩)))), ?_⟩
    refine ⟨_, rfl, m, rfl, by omega, by omega, fun Dl hD => ?_⟩
    refine lc_range (lo := 0) (n := m) (fun j H4 => Same H H4 ∧ H4 Dl = some (.lst (bV ((Pk.un t m).take j)))) ?_ ?_ ?_
    · exact ⟨Same.new hD, by rw [upd_same]; rfl⟩
    · rintro j H4 hj ⟨s4, hd4⟩
      refine ⟨rfl, ?_⟩
      refine yes ?_
      refine ⟨_, rfl, _, rfl, _, _, rfl, rfl, wide_mul (a := 62) (b := 62) (by decide) (by omega) (by decide) (by decide) (by decide), _, _, rfl, rfl, by omega, _, 150, rfl, by decide, _, _, rfl, rfl, (by show (0 : Int) < 2305843009213693951; decide), ?_⟩
      refine ⟨_, hd4, ?_, fun b u hb => ?_, ?_⟩
      · rw [bV_len, List.length_take, sizeLine_eq, Pk.un_len]
        omega
      · rw [upd_ne (ne_of_none hb hD)]
        exact s4 _ _ hb
      · rw [upd_same, take_more (un_more t m j hj), ← bV_append]
        show some (HO.lst (_ ++ [V.int ((t : Int) / 2 ^ ((150 : Int) * ((0 : Int) + (j : Int))).toNat % 2 ^ 150 % 2305843009213693951)])) = _
        rw [dig_int]
        rfl
    · rintro H4 ⟨s4, hd4⟩
      rw [List.take_of_length_le (by rw [Pk.un_len]; exact Nat.le_refl _)] at hd4
      exact q _ H4 s4 hD hd4
theorem sx_neg (n : Nat) (h : 0 < n) : HT.sIx n n (some (-1)) = n - 1 := by
  show (if (-1 : Int) < 0 then (-1 + (n : Int)).toNat else min (-1 : Int).toNat n) = _
  rw [if_pos (by decide)]
  omega
theorem pcut_neg (l : List Nat) (h : 0 < l.length) : cutV (bV l) none (some (-1)) = bV (l.take (l.length - 1)) := by
  unfold cutV
  rw [HT.sIx_none, List.drop_zero, Nat.sub_zero, bV_len, sx_neg _ h]
  unfold bV
  rw [← List.map_take]
theorem frst_more (l : List Nat) (i n : Nat) (h : (l.take (l.length - 1))[i]? = some n) : (Pk.frst l)[i]? = some (md (-(n : Int))) := by
  unfold Pk.frst
  rw [List.getElem?_map, h]
  rfl
theorem rows_at (first : List Nat) : ∀ (n : Nat) (row : List Nat) (i : Nat), i < n → ∃ r, (Pk.rows first n row)[i]? = some r
  | n + 1, row, 0, _ => ⟨row, rfl⟩
  | n + 1, row, i + 1, h => rows_at first n (Pk.nxt first row) i (by omega)
/-- the i-th row -/
def rwn (first : List Nat) : Nat → List Nat
  | 0 => first
  | n + 1 => Pk.nxt first (rwn first n)
theorem rows_rwn (first : List Nat) : ∀ (n k i : Nat), i < n → (Pk.rows first n (rwn first k))[i]? = some (rwn first (k + i))
  | n + 1, k, 0, _ => rfl
  | n + 1, k, i + 1, h => by
    show (Pk.rows first n (rwn first (k + 1)))[i]? = _
    rw [rows_rwn first n (k + 1) i (by omega)]
    congr 2
    omega
theorem rwn_row {f first : List Nat} {d : Nat} (h0 : 0 < d) (hF : Pk.Row f d d first) : ∀ n, Pk.Row f d (d + n) (rwn first n)
  | 0 => hF
  | n + 1 => Pk.nxt_row h0 hF (rwn_row h0 hF n)
theorem rwn_ok {first : List Nat} {d : Nat} (hp : Pm first) (hl : first.length = d) : ∀ n, Pm (rwn first n) ∧ (rwn first n).length = d
  | 0 => ⟨hp, hl⟩
  | n + 1 => by
    obtain ⟨h1, h2⟩ := rwn_ok hp hl n
    refine ⟨fun m hm => ?_, Pk.nxt_len hl h2⟩
    obtain ⟨i, hi⟩ := List.mem_iff_getElem?.mp hm
    have hli := (List.getElem?_eq_some_iff.mp hi).1
    have hi' : i < d := by
      have := Pk.nxt_len hl h2
      show i < d
      rw [← this]
      exact hli
    rw [show rwn first (n + 1) = Pk.nxt first (rwn first n) from rfl, Pk.nxt_at hl h2 i hi'] at hi
    cases hi
    exact md_lt _
theorem ok_hig {f fK : Addr} {fd fdK : FuncData} (D : Dfn K mg "high_powers" shigh_powers phigh_powers f fd) (B : Bi mg) (T : TP mg) (TT : TK mg) (DK : Dfn K mg "packed" spacked ppacked fK fdK) : FnOk P w K mg base CX0 2 f fd phigh_powers (spHig K) := by
  have GK : FnOk P w K mg base CX0 1 fK fdK ppacked (spPkd K) := ok_pkd DK T TT
  have nd := schigh_powers.nd
  obtain ⟨tp, hp⟩ := T.pr
  refine D.F.ok schigh_powers (fun vs H Q E h => ?_) (fun cdv A outer s H vs Q E hr h => ?_)
  · obtain ⟨a, l, d, rfl, _⟩ := h
    rfl
  · obtain ⟨a, l, d, rfl, hs, hpm, hl, h0, h60, q⟩ := h
    refine ⟨_, pss_cons (ps_set (i := 1) nd rfl (.inl rfl) (pe_op op_sub (pe_callB call_len_seq (by rfl) B.len PySem.boot_len (pa_cons (pv 0) pa_nil)) pe_int))
      (pss_cons (ps_setLc (i := 2) (own := [("number", 7)]) (g := gName 7) (tt := tYes)
          (te := tOp (rI (fun _ j => 0 < j) fun i j => .int (i % j)) (tUn (rU fun i => .int (-i)) (tVar 7)) (tC (.int 2305843009213693951))) (by rfl) nd rfl rfl (sw_true rfl rfl rfl (by decide +kernel))
          (pi_tup (pe_slice sl_tup (pv 0) po_none (po_some (pe_un un_neg pe_int))))
          (blkOk_by (N := nhigh_powers) (sc := defScope shigh_powers) (by decide +kernel)) (fun _ _ _ _ _ => pg_name (i := 7) nd rfl (.inl rfl))
          (fun _ _ _ _ _ => pts_nil)
          (fun _ _ _ _ _ => by exact pe_op op_mod (pe_un un_neg (pv 7)) (pe_glob (v := .int 2305843009213693951) rfl hp ⟨_, rfl⟩)))
      (pss_cons (ps_set (i := 3) nd rfl (.inl rfl) (pe_lst pa_nil))
      (pss_cons (ps_set (i := 4) nd rfl (.inl rfl) (pv 2))
      (pss_cons (ps_for PassesOwn.never rfl (pi_range1 (by rfl) B.range (pa_cons (pv 1) pa_nil)) (pg_name (i := 5) nd rfl (.inl rfl))
        (pss_cons (ps_expr (pe_bm PySem.F.plainAttrs_list PySem.F.slot_list_append PySem.F.type_list_append mt_append (pv 3) (pa_cons (pe_call GK hr (by rfl) DK.g DK.F.kp DK.b .nil pass0 (pa_cons (pv 4) pa_nil)) pa_nil)))
        (pss_cons (ps_set (i := 6) nd rfl (.inr rfl) (pe_ix ix_list (pv 4) (pe_un un_neg pe_int) (fun _ _ => rfl)))
        (pss_one (ps_setLc (i := 4) (own := [("low", 8), ("number", 7)]) (g := gTup K 2 (gCons (gName 8) (gCons (gName 7) gNil))) (tt := tYes)
          (te := tOp (rI (fun _ j => 0 < j) fun i j => .int (i % j)) (tOp (rI0 fun i j => .int (i + j)) (tVar 8) (tOp (rI CMulW fun i j => .int (i * j)) (tVar 6) (tVar 7))) (tC (.int 2305843009213693951))) (by rfl) nd rfl rfl (sw_true rfl rfl rfl (by decide +kernel))
          (pi_zip (by rfl) B.zip (pa_cons (pe_op op_cat (pe_lst (pa_cons pe_int pa_nil)) (pe_slice sl_list (pv 4) po_none (po_some (pe_un un_neg pe_int)))) (pa_cons (pv 2) pa_nil)))
          (blkOk_by (N := nhigh_powers) (sc := defScope shigh_powers) (by decide +kernel)) (fun _ _ _ _ _ => pg_tup rfl (pgs_cons (pg_name (i := 8) nd rfl (.inl rfl)) (pgs_cons (pg_name (i := 7) nd rfl (.inl rfl)) pgs_nil)))
          (fun _ _ _ _ _ => pts_nil)
          (fun _ _ _ _ _ => by exact pe_op op_mod (pe_op op_add (pv 8) (pe_op op_mulW (pv 6) (pv 7))) (pe_glob (v := .int 2305843009213693951) rfl hp ⟨_, rfl⟩)))))))
      (pss_one (ps_ret (pv 3))))))), ?_⟩
    refine ⟨_, rfl, a, _, rfl, .inr hs, _, _, rfl, rfl, ?_⟩
    refine ⟨_, rfl, _, rfl, _, rfl, a, _, rfl, hs, fun z => (by have := z.2; rw [bV_len, sx_neg _ (by omega)] at this; omega), fun x nx => ?_⟩
    have sx : Same H (upd H x (.tup (cutV (bV l) none (some (-1))))) := Same.new nx
    have hx1 : (upd H x (.tup (cutV (bV l) none (some (-1))))) x = some (.tup (bV (l.take (l.length - 1)))) := by rw [upd_same, pcut_neg l (by omega)]
    generalize upd H x (.tup (cutV (bV l) none (some (-1)))) = H1 at sx hx1
    refine ⟨x, rfl, ⟨_, .inl (.inl hx1)⟩, fun fi hD => ?_⟩
    have nfi : H fi = none := sx.free hD
    refine lc_tup (K := K) (a := x) (xs := bV (l.take (l.length - 1))) (fun i H3 => Same H1 H3 ∧ H3 fi = some (.lst (bV ((Pk.frst l).take i)))) ⟨Same.new hD, by rw [upd_same]; rfl⟩ (fun i H3 hi h => Same.seqT h.1 (.inl (.inl hx1))) ?_ ?_
    · rintro i y H3 hy ⟨s3, hd3⟩
      obtain ⟨n, hn, rfl⟩ := bV_get hy
      have hi : i < (l.take (l.length - 1)).length := (List.getElem?_eq_some_iff.mp hn).1
      rw [List.length_take] at hi
      refine ⟨rfl, ?_⟩
      refine yes ?_
      refine ⟨_, rfl, _, rfl, _, _, rfl, rfl, (by show (0 : Int) < 2305843009213693951; decide), ?_⟩
      refine ⟨_, hd3, ?_, fun b u hb => ?_, ?_⟩
      · rw [bV_len, List.length_take, sizeLine_eq]
        omega
      · rw [upd_ne (ne_of_none hb hD)]
        exact s3 _ _ hb
      · rw [upd_same, take_more (frst_more l i n hn), ← bV_append]
        show some (HO.lst (_ ++ [V.int (-(n : Int) % 2305843009213693951)])) = _
        rw [← md_int]
        rfl
    · rintro H3 ⟨s3, hd3⟩
      have lF : (Pk.frst l).length = d := Pk.frst_len hl
      have pF : Pm (Pk.frst l) := fun m hm => by
        unfold Pk.frst at hm
        obtain ⟨z, _, rfl⟩ := List.mem_map.mp hm
        exact md_lt _
      rw [List.take_of_length_le (by rw [bV_len, List.length_take, lF]; omega)] at hd3
      generalize Pk.frst l = first at hd3 lF pF q
      have s03 : Same H H3 := sx.trans s3
      refine ⟨Nat.zero_le _, fun ro nro => ?_⟩
      have nroH : H ro = none := s03.free nro
      have hfr : fi ≠ ro := ne_of_none hd3 nro
      have s4 : Same H (upd H3 ro (.lst [])) := s03.trans (Same.new nro)
      have hro4 : (upd H3 ro (.lst [])) ro = some (.lst (bV [])) := upd_same
      have hfi4 : (upd H3 ro (.lst [])) fi = some (.lst (bV first)) := by rw [upd_ne hfr]; exact hd3
      generalize upd H3 ro (.lst []) = H4 at s4 hro4 hfi4
      refine ⟨_, rfl, ?_⟩
      refine ⟨_, rfl, d, (by show [V.int (((bV l).length : Nat) - 1 : Int)] = _; rw [bV_len, hl, show ((d + 1 : Nat) : Int) - 1 = (d : Int) by omega]), by omega, by omega, ?_⟩
      refine for_range (n := d) (fun i σ H6 => ∃ (rp : Addr) (v5 v6 v7 v8 : Option V), σ = [some (.ref a), some (.int (((bV l).length : Nat) - 1 : Int)), some (.ref fi), some (.ref ro), some (.ref rp), v5, v6, v7, v8] ∧ Same H H6 ∧ H6 fi = some (.lst (bV first)) ∧ H6 ro = some (.lst (bV (((Pk.rows first d first).take i).map Pk.pkv))) ∧ H6 rp = some (.lst (bV (rwn first i))) ∧ rp ≠ ro)
        ⟨fi, none, none, none, none, rfl, s4, hfi4, hro4, hfi4, hfr⟩ ?_ ?_
      · rintro i σ H6 hi ⟨rp, v5, v6, v7, v8, rfl, s6, hfi6, hro6, hrp6, hne⟩
        obtain ⟨pR, lR⟩ := rwn_ok pF lF i
        have hri := rows_rwn first d 0 i hi
        rw [Nat.zero_add] at hri
        have hri2 : (Pk.rows first d first)[i]? = some (rwn first i) := hri
        have hnx : rwn first (i + 1) = Pk.nxt first (rwn first i) := rfl
        rw [hnx]
        generalize rwn first i = row at hrp6 pR lR hri2
        refine ⟨_, rfl, .inl ⟨rfl, _, SqL.of hro6⟩, _, rfl, rp, row, rfl, SqL.of hrp6, pR, by omega, ro, _, _, rfl, rfl, hro6, ?_, ?_⟩
        · rw [bV_len, List.length_map, List.length_take, sizeLine_eq]
          omega
        have s7 := sameF (o := .lst (bV (((Pk.rows first d first).take i).map Pk.pkv) ++ [V.int ((Pk.pkv row : Nat) : Int)])) s6 nroH
        have hro7 : (upd H6 ro (.lst (bV (((Pk.rows first d first).take i).map Pk.pkv) ++ [V.int ((Pk.pkv row : Nat) : Int)]))) ro = some (.lst (bV (((Pk.rows first d first).take (i + 1)).map Pk.pkv))) := by
          rw [upd_same, take_more hri2, List.map_append]
          show _ = some (HO.lst (bV (_ ++ [Pk.pkv row])))
          rw [bV_app]
        have hfi7 : (upd H6 ro (.lst (bV (((Pk.rows first d first).take i).map Pk.pkv) ++ [V.int ((Pk.pkv row : Nat) : Int)]))) fi = some (.lst (bV first)) := by rw [upd_ne hfr]; exact hfi6
        have hrp7 : (upd H6 ro (.lst (bV (((Pk.rows first d first).take i).map Pk.pkv) ++ [V.int ((Pk.pkv row : Nat) : Int)]))) rp = some (.lst (bV row)) := by rw [upd_ne hne]; exact hrp6
        generalize upd H6 ro (.lst (bV (((Pk.rows first d first).take i).map Pk.pkv) ++ [V.int ((Pk.pkv row : Nat) : Int)])) = H7 at s7 hro7 hfi7 hrp7
        refine ⟨_, rfl, _, rfl, rp, _, _, _, rfl, rfl, SqL.of hrp7, plast (by omega), ?_⟩
        refine ⟨by decide, fun z nz => ?_⟩
        have sz : Same H7 (upd H7 z (.lst [.int 0])) := Same.new nz
        have hzz : (upd H7 z (.lst [.int 0])) z = some (.lst [.int 0]) := upd_same
        generalize upd H7 z (.lst [.int 0]) = H8 at sz hzz
        refine ⟨_, rfl, _, rfl, _, rfl, rp, _, rfl, SqL.of (sz _ _ hrp7), fun y ny => ?_⟩
        have sy : Same H8 (upd H8 y (.lst (cutV (bV row) none (some (-1))))) := Same.new ny
        have hyy : (upd H8 y (.lst (cutV (bV row) none (some (-1))))) y = some (.lst (bV (row.take (row.length - 1)))) := by rw [upd_same, pcut_neg row (by omega)]
        generalize upd H8 y (.lst (cutV (bV row) none (some (-1)))) = H9 at sy hyy
        refine ⟨z, y, _, _, rfl, rfl, sy _ _ hzz, hyy, ?_, fun zp nzp => ?_⟩
        · rw [bV_len, List.length_take, sizeLine_eq]
          show 1 + _ ≤ _
          omega
        have szp : Same H9 (upd H9 zp (.lst ([V.int 0] ++ bV (row.take (row.length - 1))))) := Same.new nzp
        have hzp : (upd H9 zp (.lst ([V.int 0] ++ bV (row.take (row.length - 1))))) zp = some (.lst (bV (0 :: row.take (row.length - 1)))) := upd_same
        generalize upd H9 zp (.lst ([V.int 0] ++ bV (row.take (row.length - 1)))) = H10 at szp hzp
        have s710 := (sz.trans sy).trans szp
        have hfi10 := s710 _ _ hfi7
        refine ⟨_, rfl, zp, fi, _, _, rfl, SqL.of hzp, SqL.of hfi10, fun Dl hDl => ?_⟩
        refine lc_it (walk_zip (K := K) (a := zp) (b := fi) (xs := bV (0 :: row.take (row.length - 1))) (ys := bV first) (n := d) (by rw [bV_len, bV_len, List.length_cons, List.length_take, lF, lR]; omega)) (fun j H11 => Same H10 H11 ∧ H11 Dl = some (.lst (bV ((Pk.nxt first row).take j)))) ?_ ?_ ?_ ?_
        · exact ⟨Same.new hDl, by rw [upd_same]; rfl⟩
        · rintro j H11 hj ⟨s11, _⟩
          exact ⟨SqL.of (s11 _ _ hzp), SqL.of (s11 _ _ hfi10)⟩
        · rintro j w2 H11 H12 hj ⟨s11, hd11⟩ ⟨t, x1, x2, rfl, nt, rfl, e1, e2⟩
          obtain ⟨n1, g1, rfl⟩ := bV_get e1
          obtain ⟨n2, g2, rfl⟩ := bV_get e2
          have s12 : Same H11 (upd H11 t (.tup [V.int (n1 : Int), V.int (n2 : Int)])) := Same.new nt
          have hd12 := s12 _ _ hd11
          have hn2 : n2 < 2305843009213693951 := pF n2 (List.mem_of_getElem? g2)
          have htp := pR.at (row.length - 1)
          have hm : (Pk.nxt first row)[j]? = some (md ((n1 : Int) + (row.getD (row.length - 1) 0 : Nat) * (n2 : Int))) := by
            unfold Pk.nxt
            rw [List.getElem?_zipWith, g1, g2]
          refine ⟨t, [V.int (n1 : Int), V.int (n2 : Int)], rfl, .inl (.inl upd_same), rfl, _, _, rfl, _, _, rfl, rfl, rfl, ?_⟩
          refine yes ?_
          refine ⟨_, rfl, _, rfl, _, rfl, _, _, rfl, rfl, wide_mul (a := 62) (b := 62) (by omega) (by omega) (by decide) (by decide) (by decide), _, _, rfl, rfl, _, _, rfl, rfl, (by show (0 : Int) < 2305843009213693951; decide), ?_⟩
          refine ⟨_, hd12, ?_, fun b u hb => ?_, ?_⟩
          · rw [bV_len, List.length_take, sizeLine_eq]
            omega
          · rw [upd_ne (ne_of_none hb hDl)]
            exact (s11.trans s12) _ _ hb
          · rw [upd_same, take_more hm, ← bV_append]
            show some (HO.lst (_ ++ [V.int (((n1 : Int) + ((row.getD (row.length - 1) 0 : Nat) : Int) * (n2 : Int)) % 2305843009213693951)])) = _
            rw [← md_int]
            rfl
        · rintro H11 ⟨s11, hd11⟩
          rw [List.take_of_length_le (by rw [Pk.nxt_len lF lR]; exact Nat.le_refl _)] at hd11
          have s711 := s710.trans s11
          exact ⟨Dl, _, _, v7, v8, rfl, s7.trans s711, s711 _ _ hfi7, s711 _ _ hro7, hd11, (ne_of_none (s710 _ _ hro7) hDl).symm⟩
      · rintro σ H6 ⟨rp, v5, v6, v7, v8, rfl, s6, hfi6, hro6, hrp6, hne⟩
        rw [List.take_of_length_le (by rw [Pk.rows_len]; exact Nat.le_refl _)] at hro6
        exact ⟨_, rfl, q ro H6 s6 nroH hro6⟩
end
end K07
namespace K07
open PySem L2 Pg RZ
/-! ### the program: half_power -/
theorem op_mulXN {X : Cx} : OpR X (binaryOp .Mult) (fun x y H Q => ∃ n m : Nat, x = .int (n : Int) ∧ y = .int (m : Int) ∧ n < 2 ^ 60000 ∧ m < 2 ^ 60000 ∧ Q (.int ((n * m : Nat) : Int)) H) := by
  intro pins s σ H x y v u Q I rx ry h
  obtain ⟨n, m, rfl, rfl, h1, h2, q⟩ := h
  rw [Int.natCast_mul] at q
  exact op_mulX pins s σ H _ _ v u Q I rx ry ⟨_, _, rfl, rfl, mulx_ok (a := 60000) (b := 60000) (by rw [Int.natAbs_natCast]; exact h1) (by rw [Int.natAbs_natCast]; exact h2) (by decide), q⟩
theorem op_shlNN {X : Cx} : OpR X (binaryOp .LShift) (fun x y H Q => ∃ n k : Nat, x = .int (n : Int) ∧ y = .int (k : Int) ∧ n < 2 ^ 60000 ∧ k ≤ 60000 ∧ Q (.int ((n * 2 ^ k : Nat) : Int)) H) := by
  intro pins s σ H x y v u Q I rx ry h
  obtain ⟨n, k, rfl, rfl, h1, h2, q⟩ := h
  rw [Int.natCast_mul, Int.natCast_pow] at q
  exact op_shlN pins s σ H _ _ v u Q I rx ry ⟨_, k, rfl, rfl, shl_ok (n := 60000) (by rw [Int.natAbs_natCast]; exact h1) (by omega), q⟩
theorem op_shrNN {X : Cx} : OpR X (binaryOp .RShift) (fun x y H Q => ∃ n k : Nat, x = .int (n : Int) ∧ y = .int (k : Int) ∧ Q (.int ((n / 2 ^ k : Nat) : Int)) H) := by
  intro pins s σ H x y v u Q I rx ry h
  obtain ⟨n, k, rfl, rfl, q⟩ := h
  rw [Int.natCast_ediv, Int.natCast_pow] at q
  exact op_shrN pins s σ H _ _ v u Q I rx ry ⟨_, k, rfl, rfl, q⟩
abbrev shalf_power : Stmt := top 24
abbrev nhalf_power : List Str := ["poly", "shift", "degree", "rows", "power", "_", "square", "total", "high", "number", "row"]
abbrev phalf_power : List Str := ["poly", "shift"]
theorem schalf_power : FnScope nhalf_power phalf_power (defScope shalf_power) := ⟨rfl, rfl, rfl, by decide +kernel, rfl, by decide +kernel, by decide +kernel⟩
def spHlf (K : PySem.W.Frag) : Sp := fun vs H Q _ => ∃ (a : Addr) (l : List Nat) (d s : Nat), vs = [.ref a, .int s] ∧ SqT K H a (bV l) ∧ Pm l ∧ l.length = d + 1 ∧ 0 < d ∧ d ≤ 60 ∧ s < 2 ^ 20000 ∧
  ∀ (t : List Nat) (p : Addr) (H' : Hp), Pm t → NoZ t → cf t = cf (Hp.hpl l s) → t.length ≤ 60 → Same H H' → H p = none → H' p = some (.tup (bV t)) → Q (.ref p) H'
theorem tot_snoc : ∀ (z : List (Nat × List Nat)) (N n : Nat) (r : List Nat), Pk.tot N (z ++ [(n, r)]) = Pk.tot N z + n * Pk.pkv r
  | [], N, n, r => rfl
  | (m, q) :: z, N, n, r => tot_snoc z (N + m * Pk.pkv q) n r
theorem big1 {z s : Nat} (hz : z < 2 ^ 15000) (hs : s < 2 ^ 20000) : z < 2 ^ 60000 ∧ z * z < 2 ^ 60000 ∧ s < 2 ^ 60000 := by
  refine ⟨Nat.lt_trans hz (Nat.pow_lt_pow_right (by decide) (by decide)), ?_, Nat.lt_trans hs (Nat.pow_lt_pow_right (by decide) (by decide))⟩
  have h : z * z < 2 ^ 15000 * 2 ^ 15000 := Nat.mul_lt_mul'' hz hz
  rw [← Nat.pow_add] at h
  exact Nat.lt_trans h (Nat.pow_lt_pow_right (by decide) (by decide))
section
variable {P : Program} {w : World} {K : PySem.W.Frag} {mg : Str → Option Value} {base : Heap}
theorem ok_hlf {f fK fU fH fT : Addr} {fd fdK fdU fdH fdT : FuncData} (D : Dfn K mg "half_power" shalf_power phalf_power f fd) (B : Bi mg) (T : TP mg) (TT : TK mg) (DK : Dfn K mg "packed" spacked ppacked fK fdK) (DU : Dfn K mg "unpacked" sunpacked punpacked fU fdU) (DH : Dfn K mg "high_powers" shigh_powers phigh_powers fH fdH) (DT : Dfn K mg "trimmed" strimmed ptrimmed fT fdT) :
    FnOk P w K mg base CX0 3 f fd phalf_power (spHlf K) := by
  have GK : FnOk P w K mg base CX0 1 fK fdK ppacked (spPkd K) := ok_pkd DK T TT
  have GU : FnOk P w K mg base CX0 1 fU fdU punpacked spUnp := ok_unp DU B T TT
  have GH : FnOk P w K mg base CX0 2 fH fdH phigh_powers (spHig K) := ok_hig DH B T TT DK
  have GT : FnOk P w K mg base CX0 1 fT fdT ptrimmed (spTrm K) := ok_trm DT B
  have nd := schalf_power.nd
  obtain ⟨tr, hrm⟩ := TT.rm
  refine D.F.ok schalf_power (fun vs H Q E h => ?_) (fun cdv A outer s0 H vs Q E hr h => ?_)
  · obtain ⟨a, l, d, s, rfl, _⟩ := h
    rfl
  · obtain ⟨a, l, d, s, rfl, hs, hpm, hl, h0, h60, hsb, q⟩ := h
    have hr1 : Room 1 _ := hr.mono (by decide)
    refine ⟨_, pss_cons (ps_set (i := 2) nd rfl (.inl rfl) (pe_op op_sub (pe_callB call_len_seq (by rfl) B.len PySem.boot_len (pa_cons (pv 0) pa_nil)) pe_int))
      (pss_cons (ps_set (i := 3) nd rfl (.inl rfl) (pe_call GH hr (by rfl) DH.g DH.F.kp DH.b .nil pass0 (pa_cons (pv 0) pa_nil)))
      (pss_cons (ps_set (i := 4) nd rfl (.inl rfl) pe_int)
      (pss_cons (ps_for PassesOwn.never rfl (pi_range1 (by rfl) B.range (pa_cons pe_int pa_nil)) (pg_name (i := 5) nd rfl (.inl rfl))
        (pss_cons (ps_set (i := 6) nd rfl (.inl rfl) (pe_op op_mulXN (pv 4) (pv 4)))
        (pss_cons (ps_set (i := 7) nd rfl (.inl rfl) (pe_op op_addN (pe_op op_shlNN (pv 6) (pe_glob (v := .int 150) rfl hrm ⟨_, rfl⟩)) (pe_op op_mulXN (pv 1) (pv 6))))
        (pss_cons (ps_set (i := 8) nd rfl (.inl rfl) (pe_call GU hr1 (by rfl) DU.g DU.F.kp DU.b .nil pass0 (pa_cons (pe_op op_shrNN (pv 7) (pe_op op_mulN (pe_glob (v := .int 150) rfl hrm ⟨_, rfl⟩) (pv 2))) (pa_cons (pv 2) pa_nil))))
        (pss_cons (ps_for PassesOwn.never rfl (pi_zipA (by rfl) B.zip (pa_cons (pv 8) (pa_cons (pv 3) pa_nil))) (pg_tup rfl (pgs_cons (pg_name (i := 9) nd rfl (.inl rfl)) (pgs_cons (pg_name (i := 10) nd rfl (.inl rfl)) pgs_nil)))
          (pss_one (ps_aug (i := 7) nd rfl (.inl rfl) (pe_op op_mulXN (pv 9) (pv 10)) (fun pins s σ H x y v u Q I r1 r2 h => iop_addN pins s σ H x y v u Q I r1 r2 h))))
        (pss_one (ps_set (i := 4) nd rfl (.inl rfl) (pe_call GK hr1 (by rfl) DK.g DK.F.kp DK.b .nil pass0 (pa_cons (pe_call GU hr1 (by rfl) DU.g DU.F.kp DU.b .nil pass0 (pa_cons (pv 7) (pa_cons (pv 2) pa_nil))) pa_nil))))))))
      )
      (pss_one (ps_ret (pe_call GT hr1 (by rfl) DT.g DT.F.kp DT.b .nil pass0 (pa_cons (pe_call GU hr1 (by rfl) DU.g DU.F.kp DU.b .nil pass0 (pa_cons (pv 4) (pa_cons (pv 2) pa_nil))) pa_nil))))))), ?_⟩
    have lf0 : (Pk.frst l).length = d := Pk.frst_len hl
    have lrow : (Pk.rows (Pk.frst l) d (Pk.frst l)).length = d := Pk.rows_len _ _ _
    have hhpl : Hp.hpl l s = Pk.un (Hp.itn (Pk.frst l) d s 60) d := by unfold Hp.hpl; rw [hl, Nat.add_sub_cancel]
    refine ⟨_, rfl, a, _, rfl, .inr hs, _, _, rfl, rfl, ?_⟩
    refine ⟨_, rfl, a, l, d, rfl, hs, hpm, hl, h0, h60, fun ro H1 s1 nro hro => ?_⟩
    refine ⟨60, rfl, by decide, by decide, ?_⟩
    refine for_range (n := 60) (fun i σ H6 => ∃ v5 v6 v7 v8 v9 v10 : Option V, σ = [some (.ref a), some (.int s), some (.int d), some (.ref ro), some (.int (Hp.itn (Pk.frst l) d s i : Nat)), v5, v6, v7, v8, v9, v10] ∧ Same H H6 ∧ H6 ro = some (.lst (bV ((Pk.rows (Pk.frst l) d (Pk.frst l)).map Pk.pkv))))
      ⟨none, none, none, none, none, none, ?_, s1, hro⟩ ?_ ?_
    · show [some (V.ref a), some (V.int s), some (V.int (((bV l).length : Nat) - 1 : Int)), some (V.ref ro), some (V.int 1), none, none, none, none, none, none] = _
      rw [bV_len, hl, show ((d + 1 : Nat) : Int) - 1 = (d : Int) by omega]
      rfl
    · rintro i σ H6 hi ⟨v5, v6, v7, v8, v9, v10, rfl, s6, hro6⟩
      have hzb : Hp.itn (Pk.frst l) d s i < 2 ^ 15000 := by
        rw [Hp.wl_itn]
        exact pk_le (Hp.wl_pm _ _ _ _) (by rw [Hp.wl_len _ _ _ h0]; omega)
      have hnx : Hp.itn (Pk.frst l) d s (i + 1) = Pk.pkv (Pk.stp (Pk.frst l) d (Hp.itn (Pk.frst l) d s i * Hp.itn (Pk.frst l) d s i * (2 ^ 150 + s))) := rfl
      rw [hnx]
      generalize Hp.itn (Pk.frst l) d s i = z at hzb
      obtain ⟨hz1, hz2, hs2⟩ := big1 hzb hsb
      refine ⟨_, rfl, _, rfl, z, z, rfl, rfl, hz1, hz1, ?_⟩
      refine ⟨_, rfl, z * z, 150, rfl, rfl, hz2, by decide, _, rfl, _, rfl, s, z * z, rfl, rfl, hs2, hz2, z * z * 2 ^ 150, s * (z * z), rfl, rfl, ?_⟩
      have eN : z * z * 2 ^ 150 + s * (z * z) = z * z * (2 ^ 150 + s) := by rw [Nat.mul_add, Nat.mul_comm s]
      rw [eN]
      generalize z * z * (2 ^ 150 + s) = N
      refine ⟨_, rfl, _, rfl, 150, d, rfl, rfl, by decide, N, 150 * d, rfl, rfl, _, rfl, N / 2 ^ (150 * d), d, rfl, by omega, fun hp H7 s7 nhp hhp => ?_⟩
      have s67 := s6.trans s7
      have hro7 := s7 _ _ hro6
      have hun := Pk.un_len (N / 2 ^ (150 * d)) d
      have hup := Pk.un_pm (N / 2 ^ (150 * d)) d
      have hstp : Pk.stp (Pk.frst l) d N = Pk.un (Pk.tot N ((Pk.un (N / 2 ^ (150 * d)) d).zip (Pk.rows (Pk.frst l) d (Pk.frst l)))) d := rfl
      rw [hstp]
      generalize Pk.un (N / 2 ^ (150 * d)) d = his at hun hup hhp
      have hrg := rwn_ok (first := Pk.frst l) (d := d) (by
        intro m hm
        unfold Pk.frst at hm
        obtain ⟨x, _, rfl⟩ := List.mem_map.mp hm
        exact md_lt _) lf0
      have hrat : ∀ j, j < d → (Pk.rows (Pk.frst l) d (Pk.frst l))[j]? = some (rwn (Pk.frst l) j) := fun j hj => by
        have := rows_rwn (Pk.frst l) d 0 j hj
        rw [Nat.zero_add] at this
        exact this
      generalize Pk.rows (Pk.frst l) d (Pk.frst l) = rws at hro6 hro7 lrow hrat
      refine ⟨_, rfl, _, rfl, hp, ro, _, _, rfl, .inl ⟨SqL.of hhp, SqL.of hro7, ?_⟩⟩
      refine for_zipL (K := K) (a := hp) (b := ro) (xs := bV his) (ys := bV (rws.map Pk.pkv)) (by rw [bV_len, bV_len, List.length_map, hun, lrow])
        (fun j σ H8 => ∃ v9 v10 : Option V, σ = [some (.ref a), some (.int s), some (.int d), some (.ref ro), some (.int z), some (.int (0 + (i : Int))), some (.int (z * z : Nat)), some (.int (Pk.tot N ((his.zip rws).take j) : Nat)), some (.ref hp), v9, v10] ∧ Same H7 H8)
        ⟨v9, v10, rfl, Same.refl _⟩ (fun j σ H8 h => by obtain ⟨_, _, _, s8⟩ := h; exact ⟨SqL.of (s8 _ _ hhp), SqL.of (s8 _ _ hro7)⟩) ?_ ?_
      · rintro j x y Tt σ H8 hx hy ⟨v9, v10, rfl, s8⟩ nT
        obtain ⟨n, hn, rfl⟩ := bV_get hx
        obtain ⟨m, hm, rfl⟩ := bV_get hy
        have hj : j < d := by rw [← hun]; exact (List.getElem?_eq_some_iff.mp hn).1
        rw [List.getElem?_map, hrat j hj] at hm
        cases hm
        have hnP := hup n (List.mem_of_getElem? hn)
        have hmB : Pk.pkv (rwn (Pk.frst l) j) < 2 ^ 15000 := pk_le (hrg j).1 (by rw [(hrg j).2]; omega)
        have hzip : (his.zip rws)[j]? = some (n, rwn (Pk.frst l) j) := by
          rw [List.getElem?_zip_eq_some]
          exact ⟨hn, hrat j hj⟩
        refine ⟨Tt, _, rfl, .inl (.inl upd_same), rfl, _, _, rfl, _, _, rfl, rfl, ?_⟩
        refine ⟨_, rfl, _, rfl, _, rfl, n, Pk.pkv (rwn (Pk.frst l) j), rfl, rfl, Nat.lt_trans hnP (Nat.lt_trans (show 2305843009213693951 < 2 ^ 62 by decide) (Nat.pow_lt_pow_right (by decide) (by decide))), Nat.lt_trans hmB (Nat.pow_lt_pow_right (by decide) (by decide)), Pk.tot N ((his.zip rws).take j), n * Pk.pkv (rwn (Pk.frst l) j), rfl, rfl, ?_⟩
        refine ⟨some (.int n), some (.int (Pk.pkv (rwn (Pk.frst l) j) : Nat)), ?_, s8.trans (Same.new nT)⟩
        rw [take_more hzip, tot_snoc]
        rfl
      · rintro σ H8 ⟨v9, v10, rfl, s8⟩
        rw [bV_len, hun, List.take_of_length_le (by rw [List.length_zip, hun, lrow]; omega)]
        have s68 := s67.trans s8
        refine ⟨_, rfl, _, rfl, _, _, rfl, by omega, fun up H9 s9 nup hup9 => ?_⟩
        refine ⟨up, _, rfl, SqL.of hup9, Pk.un_pm _ _, by rw [Pk.un_len]; omega, ?_⟩
        exact ⟨_, _, _, _, _, _, rfl, s68.trans s9, s9 _ _ (s8 _ _ hro7)⟩
    · rintro σ H6 ⟨v5, v6, v7, v8, v9, v10, rfl, s6, hro6⟩
      refine ⟨_, rfl, _, rfl, _, _, rfl, by omega, fun up H9 s9 nup hup9 => ?_⟩
      refine ⟨up, _, rfl, SqL.of hup9, by rw [Pk.un_len]; omega, fun t p H10 ht s10 np hp => ?_⟩
      obtain ⟨r1, r2, r3, r4⟩ := ht.facts (Pk.un_pm _ _)
      exact q t p H10 r1 r2 (by rw [r3, hhpl]) (by rw [Pk.un_len] at r4; omega) ((s6.trans s9).trans s10) ((s6.trans s9).free np) hp
end
end K07
namespace K07
open PySem L2 Pg RZ
/-! ### parting by a greatest common divisor -/
theorem mon_len {n m : Nat} {f : Po.Q F} (h : Po.Monic n f) (h2 : Po.Monic m f) : n = m := by
  rcases Nat.lt_trichotomy n m with e | e | e
  · have a := h.2 m e
    rw [h2.1] at a
    exact absurd a Po.Fd.ne
  · exact e
  · have a := h2.2 n e
    rw [h.1] at a
    exact absurd a Po.Fd.ne
theorem nz_eq {a b : List Nat} (pa : Pm a) (pb : Pm b) (za : NoZ a) (zb : NoZ b) (h : cf a = cf b) : a = b := by
  have ne : ∀ {x y : List Nat}, Pm x → NoZ x → cf x = cf y → x.length ≤ y.length := fun {x y} px zx e => by
    refine Nat.le_of_not_lt fun hlt => ?_
    have hx : x ≠ [] := fun e0 => by rw [e0] at hlt; cases hlt
    have h1 := last_ne px zx hx
    rw [e, cf_far (by omega)] at h1
    exact h1 rfl
  exact cf_eq pa pb (Nat.le_antisymm (ne pa za h) (ne pb zb h.symm)) h
theorem br_nz (M : List Nat) : NoZ (br M) := by
  refine .inr ?_
  rw [br_len, Nat.add_sub_cancel]
  have := br_last M
  rw [List.getD_eq_getElem?_getD, this]
  decide
theorem lf_neg1 {u t : List Nat} (h : cf u = Po.add (cf t) (cf [2305843009213693950])) : Pl.lf (u.map Pk.cn) = Pl.lf (Po.ladd (t.map Pk.cn) [-1]) := by
  rw [Px.lf_ladd]
  refine (Pk.cf_lf u).symm.trans (h.trans ?_)
  rw [Pk.cf_lf t, Pk.cf_lf]
  rfl
theorem ev_neg1 {u t : List Nat} (h : cf u = Po.add (cf t) (cf [2305843009213693950])) (a : F) : Pl.ev (u.map Pk.cn) a = Pl.ev (t.map Pk.cn) a + (-1 + a * 0) := by
  rw [Rt.ev_lf (lf_neg1 h), Px.ev_ladd]
  rfl
theorem gpn {R : Type} [Po.Fd R] (x a : R) (h : x + (-1 + a * 0) = 0) : x = 1 := by grind
theorem gpp {R : Type} [Po.Fd R] (x a : R) (h : x = 1) : x + (-1 + a * 0) = 0 := by grind
theorem filt_cn (M : List Nat) (p : Nat → Bool) : ((M.filter p).map Pk.cn ++ (M.filter fun a => !p a).map Pk.cn).Perm (M.map Pk.cn) := by
  rw [← List.map_append]
  exact (Rt.filt_perm p M).map _
theorem cf_br2 (M : List Nat) : cf (br M) = Po.prod (M.map Pk.cn) := cf_br M
theorem split_gcd {M t u G G' : List Nat} (hM : Rt.Good M) (hu : cf u = Po.add (cf t) (cf [2305843009213693950])) (U : GcdP (br M) u G) (hG : Mon G G') : G' = br (M.filter (Rt.prt t)) := by
  have hGn : G ≠ [] := fun e => by
    rw [e] at U
    have h0 := I_nil (by rw [← cf_nil]; exact U.a)
    have h1 := (br_monic M).1
    rw [h0] at h1
    exact absurd h1.symm Po.Fd.ne
  rcases hG with ⟨e, _⟩ | ⟨_, r, hr, rfl⟩
  · exact absurd e hGn
  have hl : 0 < G.length := List.length_pos_iff.mpr hGn
  have hm := scl_monic hGn hr
  have hru := unit_of hr
  have hp : Po.prod ((M.filter (Rt.prt t)).map Pk.cn ++ (M.filter fun a => !Rt.prt t a).map Pk.cn) = cf (br M) := by
    rw [cf_br2]
    exact Po.Ls_perm (filt_cn M _) _
  have hup : Pl.lf (u.map Pk.cn) = cf u := (Pk.cf_lf u).symm
  have h := Pl.gcd_prod (as := (M.filter (Rt.prt t)).map Pk.cn) (bs := (M.filter fun a => !Rt.prt t a).map Pk.cn) (us := u.map Pk.cn) (n := G.length - 1) (G := cf (scl r G))
    (Rt.cn_nodup (hM.nd.filter _) fun n hn => hM.pm n (List.mem_filter.mp hn).1)
    (fun a ha => by
      obtain ⟨x, hx, rfl⟩ := List.mem_map.mp ha
      rw [ev_neg1 hu]
      exact gpp _ _ (of_decide_eq_true (List.mem_filter.mp hx).2))
    (fun b hb => by
      obtain ⟨x, hx, rfl⟩ := List.mem_map.mp hb
      rw [ev_neg1 hu]
      intro e
      have h1 := gpn _ _ e
      have h2 := (List.mem_filter.mp hx).2
      have h3 : Rt.prt t x = true := decide_eq_true h1
      rw [h3] at h2
      cases h2)
    hm (by
      rw [hp, hup, cf_scl]
      exact U.i.smul _)
    (by
      rw [hp, cf_scl]
      exact U.a.of fun f e => by rw [e]; exact of_smul hru)
    (by
      rw [hup, cf_scl]
      exact U.b.of fun f e => by rw [e]; exact of_smul hru)
  rw [← cf_br2] at h
  have h2 := br_monic (M.filter (Rt.prt t))
  rw [← h] at h2
  have h3 := mon_len hm h2
  exact cf_eq (scl_pm r G) (br_pm _) (by rw [scl_len, br_len]; omega) h
theorem quo_br {M R Qt : List Nat} {p : Nat → Bool} (hR : Rem (br M) (br (M.filter p)) R) (hQ : Quo (br M) (br (M.filter p)) R Qt) : Qt = br (M.filter fun a => !p a) := by
  have hsplit : cf (br M) = Po.mul ((br (M.filter fun a => !p a)).map Pk.cn) (cf (br (M.filter p))) := by
    have e := Pl.mul_prod ((M.filter fun a => !p a).map Pk.cn) (us := (br (M.filter fun a => !p a)).map Pk.cn) ((Pk.cf_lf _).symm.trans (cf_br2 _)) (cf (br (M.filter p)))
    refine Eq.trans ?_ e.symm
    rw [cf_br2, cf_br2]
    show _ = Po.Ls _ (Po.Ls _ Po.one)
    rw [Po.Ls_Ls, ← Po.Ls_app]
    exact (Po.Ls_perm (filt_cn M p) Po.one).symm
  have hm := br_monic (M.filter p)
  have hl := br_len (M.filter p)
  have hRi : Po.I (Po.One (cf (br (M.filter p)))) (cf R) := by
    have h1 : Po.I (Po.One (cf (br (M.filter p)))) (cf (br M)) := by rw [hsplit]; exact Pl.I.mul (Pl.self _) _
    have h2 := h1.sub hR.id
    have e : (fun k => cf (br M) k - (cf (br M) k - cf R k)) = cf R := by
      funext k
      exact gsb _ _
    rw [e] at h2
    exact h2
  have hR0 := Po.less hm hRi fun k hk => cf_far (by have := hR.sh; omega)
  have heq : Po.mul (Qt.map Pk.cn) (cf (br (M.filter p))) = Po.mul ((br (M.filter fun a => !p a)).map Pk.cn) (cf (br (M.filter p))) := by
    rw [← hsplit, hQ.eq]
    funext k
    show _ = _ + cf R k
    rw [hR0 k]
    exact gadd0 _
  have h3 := Pl.mul_same hm heq
  exact nz_eq hQ.pm (br_pm _) hQ.nz (br_nz _) ((Pk.cf_lf _).trans (h3.trans (Pk.cf_lf _).symm))
theorem rem_iff {A l R : List Nat} {d : Nat} (hm : Po.Monic d (cf l)) (hl : l.length = d + 1) (hR : Rem A l R) : R = [] ↔ Po.I (Po.One (cf l)) (cf A) := by
  constructor
  · intro e
    have h := hR.id
    rw [e] at h
    have e2 : (fun k => cf A k - cf [] k) = cf A := by
      funext k
      have g : ∀ {R : Type} [Po.Fd R] (a : R), a - 0 = a := fun a => by grind
      exact g _
    rw [e2] at h
    exact h
  · intro h
    have h2 := h.sub hR.id
    have e : (fun k => cf A k - (cf A k - cf R k)) = cf R := by
      funext k
      exact gsb _ _
    rw [e] at h2
    exact zero_of hR.pm hR.nz (Po.less hm h2 fun k hk => cf_far (by have := hR.sh; omega))
/-! ### the program: has_all_roots, halves_by -/
abbrev shas_all_roots : Stmt := top 25
abbrev nhas_all_roots : List Str := ["poly", "half", "power"]
abbrev phas_all_roots : List Str := ["poly", "half"]
theorem schas_all_roots : FnScope nhas_all_roots phas_all_roots (defScope shas_all_roots) := ⟨rfl, rfl, rfl, by decide +kernel, rfl, by decide +kernel, by decide +kernel⟩
def spHas (K : PySem.W.Frag) : Sp := fun vs H Q _ => ∃ (a b : Addr) (l t : List Nat) (d : Nat), vs = [.ref a, .ref b] ∧ SqT K H a (bV l) ∧ SqT K H b (bV t) ∧ Pm l ∧ Pm t ∧ NoZ l ∧ l.length = d + 1 ∧ d ≤ 60 ∧ Po.Monic d (cf l) ∧ t.length ≤ 60 ∧
  ∀ (bb : Bool) (H' : Hp), (bb = true ↔ Po.I (Po.One (cf l)) (Pl.sub (Po.sh (Po.mul (t.map Pk.cn) (cf t))) (Po.sh Po.one))) → Same H H' → Q (.bl bb) H'
abbrev shalves_by : Stmt := top 26
abbrev nhalves_by : List Str := ["poly", "half", "part"]
abbrev phalves_by : List Str := ["poly", "half"]
theorem schalves_by : FnScope nhalves_by phalves_by (defScope shalves_by) := ⟨rfl, rfl, rfl, by decide +kernel, rfl, by decide +kernel, by decide +kernel⟩
def spHvs (K : PySem.W.Frag) : Sp := fun vs H Q _ => ∃ (a b : Addr) (M t : List Nat), vs = [.ref a, .ref b] ∧ SqT K H a (bV (br M)) ∧ SqT K H b (bV t) ∧ Rt.Good M ∧ Pm t ∧ t.length ≤ 60 ∧
  ∀ (p x y : Addr) (H' : Hp), Same H H' → H p = none → H' p = some (.lst [.ref x, .ref y]) → SqT K H' x (bV (br (M.filter (Rt.prt t)))) → SqT K H' y (bV (br (M.filter fun a => !Rt.prt t a))) → Q (.ref p) H'
theorem g01 {R : Type} [Po.Fd R] (a : R) : 0 * a + 0 = 0 := by grind
theorem g02 {R : Type} [Po.Fd R] (a b : R) : 0 * a + (1 * b + 0) = b := by grind
theorem g03 {R : Type} [Po.Fd R] (a b : R) : a + (0 * b + 0) = a - 0 := by grind
theorem has_cf {t S1 S2 S3 : List Nat} (h1 : cf S1 = Po.mul (t.map Pk.cn) (cf t)) (h2 : cf S2 = Po.mul (([0, 1] : List Nat).map Pk.cn) (cf S1)) (h3 : cf S3 = Po.add (cf S2) (cf [0, 2305843009213693950])) :
    cf S3 = Pl.sub (Po.sh (Po.mul (t.map Pk.cn) (cf t))) (Po.sh Po.one) := by
  rw [h3, h2, ← h1]
  have e1 : Po.mul (([0, 1] : List Nat).map Pk.cn) (cf S1) = Po.sh (cf S1) := by
    show Po.add (Po.smul 0 (cf S1)) (Po.sh (Po.add (Po.smul 1 (cf S1)) (Po.sh Po.nil))) = _
    funext k
    cases k with
    | zero =>
      show (0 : F) * cf S1 0 + 0 = 0
      exact g01 _
    | succ k =>
      show (0 : F) * cf S1 (k + 1) + (1 * cf S1 k + Po.sh Po.nil k) = cf S1 k
      have : Po.sh (Po.nil : Po.Q F) k = 0 := by cases k <;> rfl
      rw [this]
      exact g02 _ _
  rw [e1]
  funext k
  show Po.sh (cf S1) k + cf [0, 2305843009213693950] k = Po.sh (cf S1) k - Po.sh Po.one k
  have : cf [0, 2305843009213693950] k = - Po.sh (Po.one : Po.Q F) k := by
    match k with
    | 0 => rfl
    | 1 => rfl
    | k + 2 =>
      have e : Po.sh (Po.one : Po.Q F) (k + 2) = 0 := by
        show (if k + 1 = 0 then (1 : F) else 0) = 0
        exact if_neg (by omega)
      rw [e]
      exact cf_far (by show 2 ≤ k + 2; omega)
  rw [this]
  have g : ∀ {R : Type} [Po.Fd R] (a b : R), a + -b = a - b := fun a b => by grind
  exact g _ _
section
variable {P : Program} {w : World} {K : PySem.W.Frag} {mg : Str → Option Value} {base : Heap}
theorem pm01 : Pm [0, 1] := by intro n hn; simp at hn; omega
theorem pm0m : Pm [0, 2305843009213693950] := by intro n hn; simp at hn; omega
theorem pmm : Pm [2305843009213693950] := by intro n hn; simp at hn; omega
theorem ok_has {f fP fS fD fI fT : Addr} {fd fdP fdS fdD fdI fdT : FuncData} (D : Dfn K mg "has_all_roots" shas_all_roots phas_all_roots f fd) (B : Bi mg) (T : TP mg) (DP : Dfn K mg "poly_product" spoly_product ppoly_product fP fdP) (DS : Dfn K mg "poly_sum" spoly_sum ppoly_sum fS fdS) (DD : Dfn K mg "poly_divided" spoly_divided ppoly_divided fD fdD) (DI : Dfn K mg "inverse" sinverse pinverse fI fdI) (DT : Dfn K mg "trimmed" strimmed ptrimmed fT fdT) :
    FnOk P w K mg base CX0 3 f fd phas_all_roots (spHas K) := by
  have GP : FnOk P w K mg base CX0 2 fP fdP ppoly_product (spPrd K) := ok_prd DP B T DT
  have GS : FnOk P w K mg base CX0 2 fS fdS ppoly_sum (spSum K) := ok_sum DS B T DT
  have GD : FnOk P w K mg base CX0 2 fD fdD ppoly_divided (spDiv K) := ok_div DD B T DI DT
  have nd := schas_all_roots.nd
  obtain ⟨tp, hp⟩ := T.pr
  refine D.F.ok schas_all_roots (fun vs H Q E h => ?_) (fun cdv A outer s H vs Q E hr h => ?_)
  · obtain ⟨a, b, l, t, d, rfl, _⟩ := h
    rfl
  · obtain ⟨a, b, l, t, d, rfl, ha, hb, pl, pt, zl, ll, h60, hm, lt, q⟩ := h
    refine ⟨_, pss_cons (ps_set (i := 2) nd rfl (.inl rfl) (pe_call GP hr (by rfl) DP.g DP.F.kp DP.b .nil pass0 (pa_cons (pe_tup (pa_cons pe_int (pa_cons pe_int pa_nil))) (pa_cons (pe_call GP hr (by rfl) DP.g DP.F.kp DP.b .nil pass0 (pa_cons (pv 1) (pa_cons (pv 1) pa_nil))) pa_nil))))
      (pss_one (ps_ret (pe_cmpR (op_eqD hr.units) (pe_ix ix_tup (pe_call GD hr (by rfl) DD.g DD.F.kp DD.b .nil pass0 (pa_cons (pe_call GS hr (by rfl) DS.g DS.F.kp DS.b .nil pass0 (pa_cons (pv 2) (pa_cons (pe_tup (pa_cons pe_int (pa_cons (pe_op op_sub (pe_glob (v := .int 2305843009213693951) rfl hp ⟨_, rfl⟩) pe_int) pa_nil))) pa_nil))) (pa_cons (pv 0) pa_nil))) pe_int (fun _ _ => rfl)) (pe_tup pa_nil) (nomark _)))), ?_⟩
    refine ⟨(by show 2 ≤ sizeLine; decide), fun z nz => ?_⟩
    have s1 : Same H (upd H z (.tup [.int 0, .int 1])) := Same.new nz
    have hz1 : (upd H z (.tup [.int 0, .int 1])) z = some (.tup (bV [0, 1])) := upd_same
    generalize upd H z (.tup [.int 0, .int 1]) = H1 at s1 hz1
    refine ⟨_, rfl, _, rfl, b, b, t, t, rfl, Same.seqT s1 hb, Same.seqT s1 hb, pt, pt, by omega, by omega, fun S1 p1 H2 pS1 zS1 cS1 lS1 s2 np1 hp1 => ?_⟩
    refine ⟨z, p1, [0, 1], S1, rfl, .inl (.inl (s2 _ _ hz1)), .inl (.inl hp1), pm01, pS1, by decide, by omega, fun S2 p2 H3 pS2 zS2 cS2 lS2 s3 np2 hp2 => ?_⟩
    have s13 := (s1.trans s2).trans s3
    refine ⟨_, rfl, _, _, rfl, rfl, (by show 2 ≤ sizeLine; decide), fun z2 nz2 => ?_⟩
    have s4 : Same H3 (upd H3 z2 (.tup [.int 0, .int (2305843009213693951 - 1)])) := Same.new nz2
    have hz4 : (upd H3 z2 (.tup [.int 0, .int (2305843009213693951 - 1)])) z2 = some (.tup (bV [0, 2305843009213693950])) := upd_same
    generalize upd H3 z2 (.tup [.int 0, .int (2305843009213693951 - 1)]) = H4 at s4 hz4
    refine ⟨p2, z2, S2, [0, 2305843009213693950], rfl, .inl (.inl (s4 _ _ hp2)), .inl (.inl hz4), pS2, pm0m, by simp at lS2; omega, by decide, fun S3 p3 H5 pS3 zS3 cS3 lS3 s5 np3 hp3 => ?_⟩
    have s15 := (s13.trans s4).trans s5
    refine ⟨_, rfl, p3, a, S3, l, rfl, .inl (.inl hp3), Same.seqT s15 ha, pS3, pl, by simp at lS2 lS3; omega, by omega, (fun e => by rw [e] at ll; cases ll), zl, fun p qp rp R Qt H6 hR _ s6 np nrp _ hp6 hrp6 _ => ?_⟩
    refine ⟨p, _, _, _, rfl, rfl, .inl (.inl hp6), rfl, ?_⟩
    refine ⟨Nat.zero_le _, fun e ne => ?_⟩
    have s7 : Same H6 (upd H6 e (.tup [])) := Same.new ne
    have hlR := hR.sh
    refine ⟨.tuple (dI R), .tuple (dI []), .tup (.inl (.inl (s7 _ _ hrp6))) (dI_all _ _ _), .tup (.inl (.inl upd_same)) .nil, dI_shaped (by omega), dI_shaped (by decide), ?_⟩
    rw [dI_eqvT]
    refine q _ _ ?_ ((s15.trans s6).trans s7)
    rw [decide_eq_true_iff, rem_iff hm ll hR, has_cf cS1 cS2 cS3]
theorem ok_hvs {f fG fS fD fI fC fT fM : Addr} {fd fdG fdS fdD fdI fdC fdT fdM : FuncData} (D : Dfn K mg "halves_by" shalves_by phalves_by f fd) (B : Bi mg) (T : TP mg) (DG : Dfn K mg "divisor" sdivisor pdivisor fG fdG) (DS : Dfn K mg "poly_sum" spoly_sum ppoly_sum fS fdS) (DD : Dfn K mg "poly_divided" spoly_divided ppoly_divided fD fdD) (DI : Dfn K mg "inverse" sinverse pinverse fI fdI) (DC : Dfn K mg "poly_scaled" spoly_scaled ppoly_scaled fC fdC) (DT : Dfn K mg "trimmed" strimmed ptrimmed fT fdT) (DM : Dfn K mg "monic" smonic pmonic fM fdM) :
    FnOk P w K mg base CX0 4 f fd phalves_by (spHvs K) := by
  have GG : FnOk P w K mg base CX0 3 fG fdG pdivisor (spGcd K) := ok_gcd DG B T DI DC DT DD DM
  have GS : FnOk P w K mg base CX0 2 fS fdS ppoly_sum (spSum K) := ok_sum DS B T DT
  have GD : FnOk P w K mg base CX0 2 fD fdD ppoly_divided (spDiv K) := ok_div DD B T DI DT
  have nd := schalves_by.nd
  obtain ⟨tp, hp⟩ := T.pr
  refine D.F.ok schalves_by (fun vs H Q E h => ?_) (fun cdv A outer s H vs Q E hr h => ?_)
  · obtain ⟨a, b, M, t, rfl, _⟩ := h
    rfl
  · obtain ⟨a, b, M, t, rfl, ha, hb, gM, pt, lt, q⟩ := h
    have hr2 : Room 2 _ := hr.mono (by decide)
    refine ⟨_, pss_cons (ps_set (i := 2) nd rfl (.inl rfl) (pe_call GG hr (by rfl) DG.g DG.F.kp DG.b .nil pass0 (pa_cons (pv 0) (pa_cons (pe_call GS hr2 (by rfl) DS.g DS.F.kp DS.b .nil pass0 (pa_cons (pv 1) (pa_cons (pe_tup (pa_cons (pe_op op_sub (pe_glob (v := .int 2305843009213693951) rfl hp ⟨_, rfl⟩) pe_int) pa_nil)) pa_nil))) pa_nil))))
      (pss_one (ps_ret (pe_lst (pa_cons (pv 2) (pa_cons (pe_ix ix_tup (pe_call GD hr2 (by rfl) DD.g DD.F.kp DD.b .nil pass0 (pa_cons (pv 0) (pa_cons (pv 2) pa_nil))) pe_int (fun _ _ => rfl)) pa_nil))))), ?_⟩
    refine ⟨_, rfl, _, rfl, _, _, rfl, rfl, (by show 1 ≤ sizeLine; decide), fun z2 nz2 => ?_⟩
    have s4 : Same H (upd H z2 (.tup [.int (2305843009213693951 - 1)])) := Same.new nz2
    have hz4 : (upd H z2 (.tup [.int (2305843009213693951 - 1)])) z2 = some (.tup (bV [2305843009213693950])) := upd_same
    generalize upd H z2 (.tup [.int (2305843009213693951 - 1)]) = H4 at s4 hz4
    refine ⟨b, z2, t, [2305843009213693950], rfl, Same.seqT s4 hb, .inl (.inl hz4), pt, pmm, by omega, by decide, fun S p3 H5 pS zS cS lS s5 np3 hp3 => ?_⟩
    have s15 := s4.trans s5
    have lM := br_len M
    have gl := gM.le
    refine ⟨a, p3, br M, S, rfl, Same.seqT s15 ha, .inl (.inl hp3), br_pm M, pS, br_nz M, zS, by omega, by simp at lS; omega, fun G G' p4 H6 hG hMon s6 hp6 => ?_⟩
    have hG' := split_gcd gM cS hG hMon
    subst hG'
    have s16 := s15.trans s6
    have lf1 : (M.filter (Rt.prt t)).length ≤ M.length := List.length_filter_le _ _
    have lb1 := br_len (M.filter (Rt.prt t))
    refine ⟨_, rfl, _, rfl, _, rfl, a, p4, br M, br (M.filter (Rt.prt t)), rfl, Same.seqT s16 ha, hp6, br_pm _, br_pm _, by omega, by omega, (fun e => by rw [e] at lb1; cases lb1), br_nz _, fun p qp rp R Qt H7 hR hQ s7 np nrp nqp hp7 hrp7 hqp7 => ?_⟩
    have hQt := quo_br hR hQ
    subst hQt
    refine ⟨p, _, _, _, rfl, rfl, .inl (.inl hp7), rfl, (by show 2 ≤ sizeLine; decide), fun ls nls => ?_⟩
    have s8 : Same H7 (upd H7 ls (.lst [.ref p4, .ref qp])) := Same.new nls
    have s18 := (s16.trans s7).trans s8
    exact q ls p4 qp _ s18 ((s16.trans s7).free nls) upd_same (Same.seqT s8 (Same.seqT s7 hp6)) (.inl (.inl (s8 _ _ hqp7)))
end
end K07
namespace K07
open PySem L2 Pg RZ
/-! ### roots: what the parting rests on -/
theorem px1 (n : Nat) : Px.px (Pk.cn 1) n = 1 := Px.px_one n
theorem half_at0 {l t : List Nat} {d : Nat} (hl : l.length = d + 1) (h0 : 0 < d) (h60 : d ≤ 60) (hm : Po.Monic d (cf l)) (ht : cf t = cf (Hp.hpl l 0)) : Pl.Md (cf l) (cf t) (Pl.sk Px.hf Po.one) := by
  have h := Hp.hpl_alg (t := 0) (u := 1) (s := 0) hl h0 h60 hm (by decide) (by rw [Nat.mul_zero, Nat.add_zero])
  rw [ht]
  refine h.trans (Pl.Md.of ?_)
  rw [px1]
  funext k
  exact Lean.Grind.Semiring.one_mul _
theorem hf_P : Px.hf + Px.hf + 1 = Pr.P := rfl
theorem val_map {M : List F} : (M.map Fin.val).map Pk.cn = M := by
  rw [List.map_map]
  conv => rhs; rw [← List.map_id M]
  refine List.map_congr_left fun a _ => ?_
  exact Pk.cn_val a
theorem val_nodup : ∀ {M : List F}, M.Nodup → (M.map Fin.val).Nodup
  | [], _ => List.nodup_nil
  | a :: M, h => by
    rw [List.nodup_cons] at h
    rw [List.map_cons, List.nodup_cons]
    refine ⟨fun hm => ?_, val_nodup h.2⟩
    obtain ⟨b, hb, e⟩ := List.mem_map.mp hm
    exact h.1 (Fin.ext e ▸ hb)
theorem val_pm (M : List F) : Pm (M.map Fin.val) := fun n hn => by
  obtain ⟨a, _, rfl⟩ := List.mem_map.mp hn
  exact a.isLt
theorem chk_iff {l t : List Nat} {d : Nat} (pl : Pm l) (hl : l.length = d + 1) (hm : Po.Monic d (cf l)) (ht : Pl.Md (cf l) (cf t) (Pl.sk Px.hf Po.one)) :
    Po.I (Po.One (cf l)) (Pl.sub (Po.sh (Po.mul (t.map Pk.cn) (cf t))) (Po.sh Po.one)) ↔ ∃ M : List Nat, M.Nodup ∧ Pm M ∧ l = br M := by
  have hlf : cf l = Pl.lf (l.map Pk.cn) := Pk.cf_lf l
  have e1 : Pl.Md (cf l) (Po.mul (t.map Pk.cn) (cf t)) (Pl.sk (Px.hf + Px.hf) Po.one) := by
    refine (ht.mul (t.map Pk.cn)).trans ?_
    rw [Px.mul_sk, Pl.mul_one', ← Px.sk_sk]
    refine Pl.Md.sk ?_ Px.hf
    have : Pl.lf (t.map Pk.cn) = cf t := (Pk.cf_lf t).symm
    rw [this]
    exact ht
  have e2 : Pl.Md (cf l) (Po.sh (Po.mul (t.map Pk.cn) (cf t))) (Pl.sk Pr.P Po.one) := by
    rw [← hf_P]
    exact e1.sh
  have e3 : Pl.Md (cf l) (Pl.sub (Po.sh (Po.mul (t.map Pk.cn) (cf t))) (Po.sh Po.one)) (Pl.lf (Px.xq Pr.P)) := by
    rw [Px.lf_xq]
    have h := e2.add (Pl.Md.refl (cf l) (Po.smul (-1) (Po.sh Po.one)))
    have g : ∀ {R : Type} [Po.Fd R] (a b : R), a - b = a + -1 * b := fun a b => by grind
    refine (Pl.Md.of ?_).trans (h.trans (Pl.Md.of ?_))
    · funext k; exact g _ _
    · funext k; exact (g _ _).symm
  have hiff : Po.I (Po.One (cf l)) (Pl.sub (Po.sh (Po.mul (t.map Pk.cn) (cf t))) (Po.sh Po.one)) ↔ Po.I (Po.One (cf l)) (Pl.lf (Px.xq Pr.P)) := ⟨fun h => e3.symm.in h, fun h => e3.in h⟩
  rw [hiff, hlf]
  have hm2 : Po.Monic d (Pl.lf (l.map Pk.cn)) := by rw [← hlf]; exact hm
  rw [Px.splits hm2]
  constructor
  · rintro ⟨M, hn, e⟩
    refine ⟨M.map Fin.val, val_nodup hn, val_pm M, ?_⟩
    have e4 : cf l = cf (br (M.map Fin.val)) := by rw [hlf, e, cf_br2, val_map]
    have h5 := br_monic (M.map Fin.val)
    rw [← e4] at h5
    have h6 := mon_len hm h5
    exact cf_eq pl (br_pm _) (by rw [br_len]; omega) e4
  · rintro ⟨M, hn, hp, rfl⟩
    exact ⟨M.map Pk.cn, Rt.cn_nodup hn hp, by rw [← hlf, cf_br2]⟩
theorem br_one (r : Nat) : br [r] = [md (-(r : Int)), 1] := by
  show mr r [1] = _
  unfold mr
  show [md (((0 : Nat) : Int) - (r : Int) * ((1 : Nat) : Int)), md (((1 : Nat) : Int) - (r : Int) * ((0 : Nat) : Int))] = _
  rw [show ((0 : Nat) : Int) - (r : Int) * ((1 : Nat) : Int) = -(r : Int) by omega, show ((1 : Nat) : Int) - (r : Int) * ((0 : Nat) : Int) = ((1 : Nat) : Int) by omega]
  rfl
theorem md_neg {r : Nat} (h : r < 2305843009213693951) : md (-(md (-(r : Int)) : Int)) = r := by unfold md; omega
/-- one or no root: it is there -/
theorem small_br {l : List Nat} {d : Nat} (pl : Pm l) (hl : l.length = d + 1) (hm : Po.Monic d (cf l)) (h : d ≤ 1) : ∃ M : List Nat, M.Nodup ∧ Pm M ∧ M.length = d ∧ l = br M := by
  have h1 : ∀ x : Nat, x < 2305843009213693951 → c (x : Nat) = 1 → x = 1 := fun x hx e => c_inj (b := 1) hx (by decide) e
  match l, d, hl, hm, h, pl with
  | [x], 0, _, hm, _, pl =>
    refine ⟨[], List.nodup_nil, (fun n hn => nomatch hn), rfl, ?_⟩
    rw [h1 x (pl x (by simp)) hm.1]
    rfl
  | [y, x], 1, _, hm, _, pl =>
    refine ⟨[md (-(y : Int))], List.nodup_cons.mpr ⟨by simp, List.nodup_nil⟩, fun n hn => by rw [List.mem_singleton.mp hn]; exact md_lt _, rfl, ?_⟩
    rw [br_one, md_neg (pl y (by simp)), h1 x (pl x (by simp)) hm.1]
theorem nxtP_snoc (s : Nat) (g : List Nat) : ∀ gs, Rt.nxtP s (gs ++ [g]) = Rt.nxtP s gs ++ Rt.nx1 s g
  | [] => by show Rt.nx1 s g ++ [] = [] ++ Rt.nx1 s g; rw [List.append_nil, List.nil_append]
  | x :: gs => by
    show Rt.nx1 s x ++ Rt.nxtP s (gs ++ [g]) = (Rt.nx1 s x ++ Rt.nxtP s gs) ++ Rt.nx1 s g
    rw [nxtP_snoc s g gs, List.append_assoc]
theorem sgs_snoc (g : List Nat) : ∀ gs, Rt.sgs (gs ++ [g]) = Rt.sgs gs ++ Rt.sg g
  | [] => by show Rt.sg g ++ [] = [] ++ Rt.sg g; rw [List.append_nil, List.nil_append]
  | x :: gs => by
    show Rt.sg x ++ Rt.sgs (gs ++ [g]) = (Rt.sg x ++ Rt.sgs gs) ++ Rt.sg g
    rw [sgs_snoc g gs, List.append_assoc]
theorem nxt_len2 (s : Nat) : ∀ gs : List (List Nat), (Rt.nxtP s gs).length ≤ gs.flatten.length
  | [] => Nat.le_refl _
  | g :: gs => by
    show (Rt.nx1 s g ++ Rt.nxtP s gs).length ≤ (g ++ gs.flatten).length
    rw [List.length_append, List.length_append]
    have h1 := nxt_len2 s gs
    have h2 : (Rt.nx1 s g).length ≤ g.length := by
      unfold Rt.nx1
      split
      · assumption
      · exact Nat.zero_le _
    omega
theorem take_flat (gs : List (List Nat)) (i : Nat) : (gs.take i).flatten.length ≤ gs.flatten.length := by
  conv => rhs; rw [← List.take_append_drop i gs, List.flatten_append, List.length_append]
  omega
/-- the parts lie at some places -/
def PartsOk (K : PySem.W.Frag) (H : Hp) : List Addr → List (List Nat) → Prop
  | [], [] => True
  | x :: xs, g :: gs => SqT K H x (bV (br g)) ∧ PartsOk K H xs gs
  | _, _ => False
theorem PartsOk.len {K : PySem.W.Frag} {H : Hp} : ∀ {xs : List Addr} {gs : List (List Nat)}, PartsOk K H xs gs → xs.length = gs.length
  | [], [], _ => rfl
  | _ :: xs, _ :: gs, h => by show xs.length + 1 = gs.length + 1; rw [PartsOk.len h.2]
  | [], _ :: _, h => h.elim
  | _ :: _, [], h => h.elim
theorem PartsOk.get {K : PySem.W.Frag} {H : Hp} : ∀ {xs : List Addr} {gs : List (List Nat)} {i : Nat} {x : Addr}, PartsOk K H xs gs → xs[i]? = some x → ∃ g, gs[i]? = some g ∧ SqT K H x (bV (br g))
  | _ :: xs, g :: gs, 0, x, h, e => ⟨g, rfl, by cases e; exact h.1⟩
  | _ :: xs, g :: gs, i + 1, x, h, e => by
    rw [List.getElem?_cons_succ] at e
    exact PartsOk.get (gs := gs) (i := i) h.2 e
  | [], [], i, x, _, e => by cases e
  | [], _ :: _, _, _, h, _ => h.elim
  | _ :: _, [], _, _, h, _ => h.elim
theorem PartsOk.map {K : PySem.W.Frag} {H H' : Hp} (f : ∀ x g, SqT K H x (bV (br g)) → SqT K H' x (bV (br g))) : ∀ {xs : List Addr} {gs : List (List Nat)}, PartsOk K H xs gs → PartsOk K H' xs gs
  | [], [], _ => trivial
  | _ :: xs, _ :: gs, h => ⟨f _ _ h.1, PartsOk.map f h.2⟩
  | [], _ :: _, h => h.elim
  | _ :: _, [], h => h.elim
theorem PartsOk.same {K : PySem.W.Frag} {H H' : Hp} {xs : List Addr} {gs : List (List Nat)} (s : Same H H') (h : PartsOk K H xs gs) : PartsOk K H' xs gs := h.map fun _ _ e => Same.seqT s e
theorem PartsOk.app {K : PySem.W.Frag} {H : Hp} : ∀ {xs : List Addr} {gs : List (List Nat)} {ys : List Addr} {hs : List (List Nat)}, PartsOk K H xs gs → PartsOk K H ys hs → PartsOk K H (xs ++ ys) (gs ++ hs)
  | [], [], _, _, _, h2 => h2
  | _ :: xs, _ :: gs, _, _, h, h2 => ⟨h.1, PartsOk.app h.2 h2⟩
  | [], _ :: _, _, _, h, _ => h.elim
  | _ :: _, [], _, _, h, _ => h.elim
/-- a list is written: tuples stay -/
theorem seqT_lst {K : PySem.W.Frag} {H : Hp} {b x : Addr} {ys zs xs : List V} (hb : H b = some (.lst ys)) (h : SqT K H x xs) : SqT K (upd H b (.lst zs)) x xs := by
  rcases h with (h | ⟨o, h⟩) | h
  · have : x ≠ b := fun e => by rw [e, hb] at h; cases h
    exact .inl (.inl (by rw [upd_ne this]; exact h))
  · have : x ≠ b := fun e => by rw [e, hb] at h; cases h
    exact .inl (.inr ⟨o, by rw [upd_ne this]; exact h⟩)
  · exact .inr h
theorem bd_lt {s m q : Nat} (h : s + m ≤ 60 * (4 * Hp.Kk) + 1) : s < 2 ^ 20000 := by
  have h1 : 60 * (4 * Hp.Kk) + 1 < 2 ^ 20000 := by
    have h2 : 60 * (4 * Hp.Kk) + 1 ≤ 256 * Hp.Kk := by
      have : 0 < Hp.Kk := Nat.two_pow_pos _
      omega
    have h3 : 256 * Hp.Kk = 2 ^ 18008 := by
      show 2 ^ 8 * 2 ^ 18000 = _
      rw [← Nat.pow_add]
    rw [h3] at h2
    exact Nat.lt_of_le_of_lt h2 (Nat.pow_lt_pow_right (by decide) (by decide))
  omega
theorem psi_flat : ∀ gs : List (List Nat), Rt.psi gs ≤ gs.flatten.length
  | [] => Nat.le_refl _
  | g :: gs => by
    show (g.length - 1) + Rt.psi gs ≤ (g ++ gs.flatten).length
    have := psi_flat gs
    rw [List.length_append]
    omega
theorem seq_cut {t1 t2 tr : TS} {D : Ends} {σ : L2.St} {H : Hp} (J : L2.St → Hp → Prop) (hr : ∀ σ' H', J σ' H' → tr D σ' H') (h : (∀ σ' H', J σ' H' → tr D σ' H') → tSeq t1 (tSeq t2 tr) D σ H) : tSeq t1 (tSeq t2 tr) D σ H := h hr
/-! ### the program: roots_of, roots -/
abbrev sroots_of : Stmt := top 27
abbrev nroots_of : List Str := ["poly", "parts", "half", "found", "shift", "later", "part"]
abbrev proots_of : List Str := ["poly"]
theorem scroots_of : FnScope nroots_of proots_of (defScope sroots_of) := ⟨rfl, rfl, rfl, by decide +kernel, rfl, by decide +kernel, by decide +kernel⟩
def spRof (K : PySem.W.Frag) : Sp := fun vs H Q _ => ∃ (a : Addr) (l : List Nat) (d : Nat), vs = [.ref a] ∧ SqT K H a (bV l) ∧ Pm l ∧ l.length = d + 1 ∧ d ≤ 60 ∧ Po.Monic d (cf l) ∧
  (∀ (M ns : List Nat) (p : Addr) (H' : Hp), M.Nodup → Pm M → l = br M → ns.Perm M → ns.Pairwise (· ≤ ·) → Same H H' → H p = none → H' p = some (.tup (bV ns)) → Q (.ref p) H') ∧
  ((¬ ∃ M : List Nat, M.Nodup ∧ Pm M ∧ l = br M) → ∀ H', Same H H' → Q .non H')
abbrev sroots : Stmt := top 28
abbrev nroots : List Str := ["poly"]
abbrev proots : List Str := ["poly"]
theorem scroots : FnScope nroots proots (defScope sroots) := ⟨rfl, rfl, rfl, by decide +kernel, rfl, by decide +kernel, by decide +kernel⟩
theorem nats_of {ys : List Int} {l : List Nat} (h : ys.Perm (l.map fun n : Nat => (n : Int))) : ys.map V.int = bV (ys.map Int.toNat) ∧ (ys.map Int.toNat).Perm l := by
  refine ⟨?_, ?_⟩
  · unfold bV
    rw [List.map_map]
    refine List.map_congr_left fun y hy => ?_
    obtain ⟨n, _, rfl⟩ := List.mem_map.mp (h.mem_iff.mp hy)
    show V.int (n : Int) = V.int ((n : Int).toNat : Int)
    rw [Int.toNat_natCast]
  · have := h.map Int.toNat
    rw [List.map_map] at this
    have e : (Int.toNat ∘ fun n : Nat => (n : Int)) = id := by funext n; exact Int.toNat_natCast n
    rw [e, List.map_id] at this
    exact this
theorem bV_int (l : List Nat) : (l.map fun n : Nat => (n : Int)).map V.int = bV l := by
  unfold bV
  rw [List.map_map]
  rfl
theorem pw_nat {ys : List Int} (h : ys.Pairwise (· ≤ ·)) : (ys.map Int.toNat).Pairwise (· ≤ ·) := by
  rw [List.pairwise_map]
  exact h.imp fun h => by omega
/-- what stands ahead of each turn -/
def RI (K : PySem.W.Frag) (H : Hp) (a fo : Addr) (M : List Nat) (m : Nat) (σ : L2.St) (H' : Hp) : Prop :=
  ∃ (qo : Addr) (v2 v5 v6 : Option V) (gs : List (List Nat)) (xs : List Addr) (s : Nat) (fd : List Nat), σ = [some (.ref a), some (.ref qo), v2, some (.ref fo), some (.int s), v5, v6] ∧ Same H H' ∧ H' fo = some (.lst (bV fd)) ∧ H' qo = some (.lst (xs.map V.ref)) ∧ qo ≠ fo ∧ H qo = none ∧ PartsOk K H' xs gs ∧ (∀ g, g ∈ gs → Rt.Good g) ∧ (fd ++ gs.flatten).Perm M ∧ Rt.Ends m gs s ∧ s + m ≤ 60 * (4 * Hp.Kk) + 1
section
variable {P : Program} {w : World} {K : PySem.W.Frag} {mg : Str → Option Value} {base : Heap}
theorem ok_rof {f fV fH fA : Addr} {fd fdV fdH fdA : FuncData} (D : Dfn K mg "roots_of" sroots_of proots_of f fd) (B : Bi mg) (T : TP mg)
    (DV : Dfn K mg "halves_by" shalves_by phalves_by fV fdV) (GV : FnOk P w K mg base CX0 4 fV fdV phalves_by (spHvs K))
    (DH : Dfn K mg "half_power" shalf_power phalf_power fH fdH) (GH : FnOk P w K mg base CX0 3 fH fdH phalf_power (spHlf K))
    (DA : Dfn K mg "has_all_roots" shas_all_roots phas_all_roots fA fdA) (GA : FnOk P w K mg base CX0 3 fA fdA phas_all_roots (spHas K)) :
    FnOk P w K mg base CX0 5 f fd proots_of (spRof K) := by
  have nd := scroots_of.nd
  obtain ⟨tp, hp⟩ := T.pr
  refine D.F.ok scroots_of (fun vs H Q E h => ?_) (fun cdv A outer s0 H vs Q E hr h => ?_)
  · obtain ⟨a, l, d, rfl, _⟩ := h
    rfl
  · obtain ⟨a, l, d, rfl, ha, pl, ll, h60, hm, qY, qN⟩ := h
    have hr3 : Room 3 _ := hr.mono (by decide)
    refine ⟨_, pss_cons (ps_set (i := 1) nd rfl (.inl rfl) (pe_lst (pa_cons (pv 0) pa_nil)))
      (pss_cons (ps_if (pt_cmpR op_gt (pe_callB call_len_seq (by rfl) B.len PySem.boot_len (pa_cons (pv 0) pa_nil)) pe_int (nomark _))
        (pss_cons (ps_set (i := 2) nd rfl (.inl rfl) (pe_call GH hr3 (by rfl) DH.g DH.F.kp DH.b .nil pass0 (pa_cons (pv 0) (pa_cons pe_int pa_nil))))
        (pss_cons (ps_if (pt_not (pt_val (pe_call GA hr3 (by rfl) DA.g DA.F.kp DA.b .nil pass0 (pa_cons (pv 0) (pa_cons (pv 2) pa_nil))))) (pss_one (ps_ret pe_non)) pss_nil)
        (pss_one (ps_set (i := 1) nd rfl (.inl rfl) (pe_call GV hr (by rfl) DV.g DV.F.kp DV.b .nil pass0 (pa_cons (pv 0) (pa_cons (pv 2) pa_nil))))))) pss_nil)
      (pss_cons (ps_set (i := 3) nd rfl (.inl rfl) (pe_lst pa_nil))
      (pss_cons (ps_set (i := 4) nd rfl (.inl rfl) pe_int)
      (pss_cons (ps_while PassesOwn.never (pt_cmpR op_gt (pe_callB call_len_seq (by rfl) B.len PySem.boot_len (pa_cons (pv 1) pa_nil)) pe_int (nomark _))
        (pss_cons (ps_aug (i := 4) nd rfl (.inl rfl) pe_int (fun pins s σ H x y v u Q I r1 r2 h => iop_add pins s σ H x y v u Q I r1 r2 h))
        (pss_cons (ps_set (i := 5) nd rfl (.inl rfl) (pe_lst pa_nil))
        (pss_cons (ps_for PassesOwn.never rfl (pi_list (pv 1)) (pg_name (i := 6) nd rfl (.inl rfl))
          (pss_one (ps_if (pt_cmpR op_gt (pe_callB call_len_seq (by rfl) B.len PySem.boot_len (pa_cons (pv 6) pa_nil)) pe_int (nomark _))
            (pss_one (ps_expr (pe_bm PySem.F.plainAttrs_list PySem.F.slot_list_extend PySem.F.type_list_extend mt_extend (pv 5) (pa_cons (pe_call GV hr (by rfl) DV.g DV.F.kp DV.b .nil pass0 (pa_cons (pv 6) (pa_cons (pe_call GH hr3 (by rfl) DH.g DH.F.kp DH.b .nil pass0 (pa_cons (pv 6) (pa_cons (pv 4) pa_nil))) pa_nil))) pa_nil))))
            (pss_one (ps_if (pt_cmpR op_eq (pe_callB call_len_seq (by rfl) B.len PySem.boot_len (pa_cons (pv 6) pa_nil)) pe_int (nomark _))
              (pss_one (ps_expr (pe_bm PySem.F.plainAttrs_list PySem.F.slot_list_append PySem.F.type_list_append mt_append (pv 3) (pa_cons (pe_op op_mod (pe_un un_neg (pe_ix ix_tup (pv 6) pe_int (fun _ _ => rfl))) (pe_glob (v := .int 2305843009213693951) rfl hp ⟨_, rfl⟩)) pa_nil)))) pss_nil)))))
        (pss_one (ps_set (i := 1) nd rfl (.inl rfl) (pv 5)))))))
      (pss_one (ps_ret (pe_callTy call_tuple_of (by rfl) B.tuple (by decide +kernel) (pa_cons (pe_callB cr_sorted (by rfl) T.so (by decide +kernel) (pa_cons (pv 3) pa_nil)) pa_nil)))))))), ?_⟩
    refine seq_cut (fun σ H1 => ∃ (po : Addr) (v2 : Option V) (gs : List (List Nat)) (xs : List Addr) (M : List Nat), σ = [some (.ref a), some (.ref po), v2, none, none, none, none] ∧ Same H H1 ∧ H po = none ∧ H1 po = some (.lst (xs.map V.ref)) ∧ PartsOk K H1 xs gs ∧ (∀ g, g ∈ gs → Rt.Good g) ∧ gs.flatten.Perm M ∧ M.Nodup ∧ Pm M ∧ M.length = d ∧ l = br M) ?_ ?_
    · rintro σ H1 ⟨po, v2, gs, xs, M, rfl, s1, npo, hpo, hP, hg, hperm, hMn, hMp, hMl, hlM⟩
      refine ⟨Nat.zero_le _, fun fo nfo => ?_⟩
      have nfoH : H fo = none := s1.free nfo
      have hne : po ≠ fo := ne_of_none hpo nfo
      have s2 : Same H1 (upd H1 fo (.lst [])) := Same.new nfo
      have hfo2 : (upd H1 fo (.lst [])) fo = some (.lst (bV [])) := upd_same
      generalize upd H1 fo (.lst []) = H2 at s2 hfo2
      obtain ⟨m0, hm0, E0⟩ := Rt.ends (Rt.psi gs + 1) gs hg (by omega) 0
      have hpsi := psi_flat gs
      rw [hperm.length_eq, hMl] at hpsi
      have hB0 : 0 + m0 ≤ 60 * (4 * Hp.Kk) + 1 := by
        have := Nat.mul_le_mul_right (4 * Hp.Kk) (Nat.le_trans hpsi h60)
        omega
      refine ⟨RI K H a fo M, ⟨m0, po, v2, none, none, gs, xs, 0, [], rfl, s1.trans s2, hfo2, s2 _ _ hpo, hne, npo, hP.same s2, hg, hperm, E0, hB0⟩, ?_⟩
      rintro m σ H3 ⟨qo, v2, v5, v6, gs, xs, s, fd, rfl, s3, hfo3, hqo3, hne3, nqo, hP3, hg3, hperm3, hE, hB⟩
      refine ⟨_, rfl, qo, _, rfl, .inl (SqL.of hqo3), _, _, rfl, rfl, _, rfl, ?_⟩
      rw [List.length_map, hP3.len]
      cases hE with
      | done =>
        refine iteF ?_
        have hfM : fd.Perm M := by
          have : fd ++ ([] : List (List Nat)).flatten = fd := List.append_nil fd
          rw [this] at hperm3
          exact hperm3
        refine ⟨_, rfl, fo, fd.map fun n : Nat => (n : Int), rfl, SqL.of (by rw [bV_int]; exact hfo3), by rw [List.length_map, hfM.length_eq, hMl]; omega, fun ys p hys pw np => ?_⟩
        obtain ⟨n1, n2⟩ := nats_of hys
        refine ⟨p, _, rfl, .inl ⟨SqL.of upd_same, fun t nt => ?_⟩⟩
        have s4 := s3.trans (Same.new (o := .lst (ys.map V.int)) np)
        exact qY M (ys.map Int.toNat) t _ hMn hMp hlM (n2.trans hfM) (pw_nat pw) (s4.trans (Same.new nt)) (s4.free nt) (by rw [upd_same, n1])
      | @next m' _ _ hgne hE2 =>
        have hgl : 0 < gs.length := List.length_pos_iff.mpr hgne
        rw [decide_eq_true (show (0 : Int) < (gs.length : Int) by omega)]
        refine iteT ?_
        refine ⟨RI K H a fo M m', fun σ' H' h => ⟨m', by omega, h⟩, ?_⟩
        refine ⟨_, rfl, _, _, rfl, rfl, Nat.zero_le _, fun lo nlo => ?_⟩
        have nloH : H lo = none := s3.free nlo
        have hlf : lo ≠ fo := (ne_of_none hfo3 nlo).symm
        have hlq : lo ≠ qo := (ne_of_none hqo3 nlo).symm
        have s4 : Same H3 (upd H3 lo (.lst [])) := Same.new nlo
        have hlo4 : (upd H3 lo (.lst [])) lo = some (.lst (([] : List Addr).map V.ref)) := upd_same
        generalize upd H3 lo (.lst []) = H4 at s4 hlo4
        have hqo4 := s4 _ _ hqo3
        refine ⟨_, rfl, qo, rfl, ⟨_, SqL.of hqo4⟩, ?_⟩
        refine for_list (K := K) (a := qo) (xs := xs.map V.ref) (fun i σ H5 => ∃ (v6 : Option V) (ys : List Addr), σ = [some (.ref a), some (.ref qo), v2, some (.ref fo), some (.int ((s : Int) + 1)), some (.ref lo), v6] ∧ Same H H5 ∧ H5 fo = some (.lst (bV (fd ++ Rt.sgs (gs.take i)))) ∧ H5 lo = some (.lst (ys.map V.ref)) ∧ PartsOk K H5 ys (Rt.nxtP (s + 1) (gs.take i)) ∧ H5 qo = some (.lst (xs.map V.ref)) ∧ PartsOk K H5 xs gs)
          ⟨v6, [], rfl, s3.trans s4, by rw [List.take_zero]; show _ = some (HO.lst (bV (fd ++ []))); rw [List.append_nil]; exact s4 _ _ hfo3, hlo4, trivial, hqo4, hP3.same s4⟩ ?_ ?_ ?_
        · rintro i σ H5 hi ⟨v6, ys, rfl, s5, hfo5, hlo5, hY5, hqo5, hP5⟩
          exact SqL.of hqo5
        · rintro i x σ H5 hx ⟨v6, ys, rfl, s5, hfo5, hlo5, hY5, hqo5, hP5⟩
          rw [List.getElem?_map] at hx
          cases ex : xs[i]? with
          | none => rw [ex] at hx; cases hx
          | some pt =>
            rw [ex] at hx
            obtain rfl : V.ref pt = x := Option.some.inj hx
            obtain ⟨g, hgi, hpt⟩ := hP5.get ex
            have gG := hg3 g (List.mem_of_getElem? hgi)
            have gl := gG.le
            have lb := br_len g
            rw [take_more hgi, nxtP_snoc, sgs_snoc]
            have hysl := hY5.len
            have hfl : (fd ++ Rt.sgs (gs.take i)).length ≤ 1000 := by
              have h1 := (Rt.all_perm (s + 1) (gs.take i)).length_eq
              rw [List.length_append] at h1
              have h2 := take_flat gs i
              have h3 := hperm3.length_eq
              rw [List.length_append, hMl] at h3
              rw [List.length_append]
              omega
            refine ⟨_, rfl, pt, _, rfl, .inr hpt, _, _, rfl, rfl, _, rfl, ?_⟩
            rw [bV_len, lb]
            by_cases h2 : 2 ≤ g.length
            · rw [decide_eq_true (show (2 : Int) < ((g.length + 1 : Nat) : Int) by omega)]
              refine iteT ?_
              refine ⟨_, rfl, .inl ⟨rfl, _, SqL.of hlo5⟩, _, rfl, _, rfl, _, rfl, pt, br g, g.length, s + 1, rfl, hpt, br_pm g, lb, by omega, gl, bd_lt (q := 0) (s := s + 1) (m := m') (by omega), fun t p1 H6 pt1 zt ct lt s6 np1 hp1 => ?_⟩
              refine ⟨pt, p1, g, t, rfl, Same.seqT s6 hpt, .inl (.inl hp1), gG, pt1, lt, fun p2 x1 y1 H7 s7 np2 hp2 hx1 hy1 => ?_⟩
              have s67 := s6.trans s7
              have hlo7 := s67 _ _ hlo5
              rw [Rt.prt_cf ct] at hx1 hy1
              refine ⟨lo, p2, _, _, rfl, rfl, hlo7, hp2, ?_, ?_⟩
              · rw [List.length_map, sizeLine_eq, hysl]
                have h4 := nxt_len2 (s + 1) (gs.take i)
                have h5 := take_flat gs i
                have h6 := hperm3.length_eq
                rw [List.length_append, hMl] at h6
                show _ + 2 ≤ _
                omega
              have e7 : Rt.sg g = [] := by unfold Rt.sg; rw [if_neg (by omega)]
              have e8 : Rt.nx1 (s + 1) g = [g.filter (Rt.T (s + 1) g), g.filter fun a => !Rt.T (s + 1) g a] := by unfold Rt.nx1; rw [if_pos h2]
              rw [e7, e8, List.append_nil]
              refine ⟨some (.ref pt), ys ++ [x1, y1], rfl, sameF (s5.trans s67) nloH, ?_, ?_, ?_, ?_, ?_⟩
              · rw [upd_ne hlf.symm]; exact s67 _ _ hfo5
              · rw [upd_same, List.map_append]; rfl
              · exact PartsOk.map (fun _ _ h => seqT_lst hlo7 h) ((hY5.same s67).app ⟨hx1, hy1, trivial⟩)
              · rw [upd_ne hlq.symm]; exact s67 _ _ hqo5
              · exact PartsOk.map (fun _ _ h => seqT_lst hlo7 h) (hP5.same s67)
            · rw [decide_eq_false (show ¬ (2 : Int) < ((g.length + 1 : Nat) : Int) by omega)]
              refine iteF ?_
              have e8 : Rt.nx1 (s + 1) g = [] := by unfold Rt.nx1; rw [if_neg h2]
              rw [e8, List.append_nil]
              refine ⟨_, rfl, pt, _, rfl, .inr hpt, rfl, _, rfl, ?_⟩
              rw [bV_len, lb]
              by_cases h1 : g.length = 1
              · rw [h1]
                refine iteT ?_
                obtain ⟨r, rfl⟩ : ∃ r, g = [r] := by
                  match g, h1 with
                  | [r], _ => exact ⟨r, rfl⟩
                have hrP := gG.pm r (by simp)
                rw [br_one] at hpt
                refine ⟨_, rfl, .inl ⟨rfl, _, SqL.of hfo5⟩, _, rfl, pt, _, _, _, rfl, rfl, hpt, at_of (j := 0) rfl rfl, _, rfl, _, _, rfl, rfl, (by show (0 : Int) < 2305843009213693951; decide), fo, _, _, rfl, rfl, hfo5, ?_, ?_⟩
                · rw [bV_len, sizeLine_eq]
                  omega
                refine ⟨some (.ref pt), ys, rfl, sameF s5 nfoH, ?_, ?_, ?_, ?_, ?_⟩
                · rw [upd_same]
                  show some (HO.lst (bV (fd ++ Rt.sgs (gs.take i)) ++ [V.int (-((md (-(r : Int)) : Nat) : Int) % 2305843009213693951)])) = some (HO.lst (bV (fd ++ (Rt.sgs (gs.take i) ++ [r]))))
                  rw [← md_int, md_neg hrP, ← List.append_assoc, bV_app]
                · rw [upd_ne hlf]; exact hlo5
                · exact PartsOk.map (fun _ _ h => seqT_lst hfo5 h) hY5
                · rw [upd_ne hne3]; exact hqo5
                · exact PartsOk.map (fun _ _ h => seqT_lst hfo5 h) hP5
              · have e7 : Rt.sg g = [] := by unfold Rt.sg; rw [if_neg h1]
                rw [e7, List.append_nil]
                rw [show decide (V.int ((g.length + 1 : Nat) : Int) = V.int 2) = false from decide_eq_false fun e => h1 (by injection e with e; omega)]
                refine iteF ?_
                exact ⟨some (.ref pt), ys, rfl, s5, hfo5, hlo5, hY5, hqo5, hP5⟩
        · rintro σ H5 ⟨v6, ys, rfl, s5, hfo5, hlo5, hY5, hqo5, hP5⟩
          rw [List.length_map, hP3.len, List.take_length] at hfo5 hY5
          refine ⟨_, rfl, ?_⟩
          refine ⟨lo, v2, _, v6, Rt.nxtP (s + 1) gs, ys, s + 1, fd ++ Rt.sgs gs, rfl, s5, hfo5, hlo5, hlf, nloH, hY5, Rt.nxtP_good _ gs hg3, ?_, hE2, by omega⟩
          rw [List.append_assoc]
          exact (List.Perm.append_left fd (Rt.all_perm (s + 1) gs)).trans hperm3
    · intro rest
      refine ⟨_, rfl, (by show 1 ≤ sizeLine; decide), fun po npo => ?_⟩
      have s1 : Same H (upd H po (.lst [.ref a])) := Same.new npo
      have hpo1 : (upd H po (.lst [.ref a])) po = some (.lst ([a].map V.ref)) := upd_same
      generalize upd H po (.lst [.ref a]) = H1 at s1 hpo1
      refine ⟨_, rfl, a, _, rfl, .inr (Same.seqT s1 ha), _, _, rfl, rfl, _, rfl, ?_⟩
      rw [bV_len, ll]
      by_cases hd : 2 ≤ d
      · rw [decide_eq_true (show (2 : Int) < ((d + 1 : Nat) : Int) by omega)]
        refine iteT ?_
        refine ⟨_, rfl, a, l, d, 0, rfl, Same.seqT s1 ha, pl, ll, by omega, h60, by decide +kernel, fun t p1 H2 pt zt ct lt s2 np1 hp1 => ?_⟩
        have hh := half_at0 ll (by omega) h60 hm ct
        have hck := chk_iff pl ll hm hh
        have zl : NoZ l := by
          refine .inr ?_
          rw [ll, Nat.add_sub_cancel]
          intro e
          have h1 := hm.1
          have h2 : cf l d = 0 := by show c ((l.getD d 0 : Nat) : Int) = 0; rw [e]; rfl
          rw [h2] at h1
          exact Po.Fd.ne h1.symm
        have s12 := s1.trans s2
        refine ⟨_, rfl, _, rfl, a, p1, l, t, d, rfl, Same.seqT s12 ha, .inl (.inl hp1), pl, pt, zl, ll, h60, hm, lt, fun bb H3 hbb s3 => ?_⟩
        have s13 := s12.trans s3
        refine ⟨_, rfl, ?_⟩
        cases bb with
        | false =>
          refine iteT ?_
          exact qN (fun h => by have := hbb.mpr (hck.mpr h); cases this) H3 s13
        | true =>
          refine iteF ?_
          obtain ⟨M, hMn, hMp, rfl⟩ := hck.mp (hbb.mp rfl)
          have hMl : M.length = d := by
            have := br_len M
            omega
          have gM : Rt.Good M := ⟨hMn, hMp, by omega⟩
          refine ⟨_, rfl, _, rfl, a, p1, M, t, rfl, Same.seqT s13 ha, .inl (.inl (s3 _ _ hp1)), gM, pt, lt, fun p2 x1 y1 H4 s4 np2 hp2 hx1 hy1 => ?_⟩
          refine rest _ _ ⟨p2, _, [M.filter (Rt.prt t), M.filter fun a => !Rt.prt t a], [x1, y1], M, rfl, s13.trans s4, s13.free np2, hp2, ⟨hx1, hy1, trivial⟩, ?_, ?_, hMn, hMp, hMl, rfl⟩
          · intro g hg
            rcases List.mem_cons.mp hg with rfl | hg
            · exact gM.filter _
            · rw [List.mem_singleton.mp hg]; exact gM.filter _
          · show (M.filter (Rt.prt t) ++ ((M.filter fun a => !Rt.prt t a) ++ [])).Perm M
            rw [List.append_nil]
            exact Rt.filt_perm _ M
      · rw [decide_eq_false (show ¬ (2 : Int) < ((d + 1 : Nat) : Int) by omega)]
        refine iteF ?_
        obtain ⟨M, hMn, hMp, hMl, rfl⟩ := small_br pl ll hm (by omega)
        refine rest _ _ ⟨po, none, [M], [a], M, rfl, s1, npo, hpo1, ⟨Same.seqT s1 ha, trivial⟩, ?_, ?_, hMn, hMp, hMl, rfl⟩
        · intro g hg
          rw [List.mem_singleton.mp hg]
          exact ⟨hMn, hMp, by omega⟩
        · show (M ++ []).Perm M
          rw [List.append_nil]
end
end K07
namespace K07
open PySem L2 Pg RZ
/-! ### the law's own reckoning -/
abbrev s_law_prime : Stmt := top 31
abbrev n_law_prime : List Str := []
abbrev p_law_prime : List Str := []
theorem sc_law_prime : FnScope n_law_prime p_law_prime (defScope s_law_prime) := ⟨rfl, rfl, rfl, by decide +kernel, rfl, by decide +kernel, by decide +kernel⟩
def spPr : Sp := fun vs H Q _ => vs = [] ∧ Q (.int 2305843009213693951) H
abbrev s_law_from_roots : Stmt := top 33
abbrev n_law_from_roots : List Str := ["points", "found", "root", "k"]
abbrev p_law_from_roots : List Str := ["points"]
theorem sc_law_from_roots : FnScope n_law_from_roots p_law_from_roots (defScope s_law_from_roots) := ⟨rfl, rfl, rfl, by decide +kernel, rfl, by decide +kernel, by decide +kernel⟩
def spFr (K : PySem.W.Frag) : Sp := fun vs H Q _ => ∃ (a : Addr) (rs : List Nat), vs = [.ref a] ∧ SqL K H a (bV rs) ∧ Pm rs ∧ rs.length ≤ 60 ∧ ∀ (p : Addr) (H' : Hp), Same H H' → H p = none → H' p = some (.tup (bV (br rs))) → Q (.ref p) H'
abbrev s_law_at : Stmt := top 38
abbrev n_law_at : List Str := ["poly", "place", "found", "power", "number"]
abbrev p_law_at : List Str := ["poly", "place"]
theorem sc_law_at : FnScope n_law_at p_law_at (defScope s_law_at) := ⟨rfl, rfl, rfl, by decide +kernel, rfl, by decide +kernel, by decide +kernel⟩
def spAt (K : PySem.W.Frag) : Sp := fun vs H Q _ => ∃ (a : Addr) (l : List Nat) (x : Nat), vs = [.ref a, .int x] ∧ SqT K H a (bV l) ∧ Pm l ∧ x < 2305843009213693951 ∧ ∀ H', Same H H' → Q (.int (hor x l : Nat)) H'
abbrev s_law_power : Stmt := top 37
abbrev n_law_power : List Str := ["number", "many", "found", "bit"]
abbrev p_law_power : List Str := ["number", "many"]
theorem sc_law_power : FnScope n_law_power p_law_power (defScope s_law_power) := ⟨rfl, rfl, rfl, by decide +kernel, rfl, by decide +kernel, by decide +kernel⟩
def spPw : Sp := fun vs H Q _ => ∃ (n e : Nat), vs = [.int n, .int e] ∧ n < 2305843009213693951 ∧ e < 2 ^ 64 ∧ ∀ r : Nat, r < 2305843009213693951 → c (r : Nat) = Px.px (c (n : Nat)) e → Q (.int r) H
def ev (x : F) : List Nat → F
  | [] => 0
  | n :: l => c (n : Nat) + x * ev x l
theorem gev {R : Type} [Po.Fd R] (a x n : R) : a * x + n = n + x * a := by grind
theorem hor_ev (x : Nat) : ∀ l, c (hor x l : Nat) = ev (c (x : Nat)) l
  | [] => rfl
  | n :: l => by
    show c (md ((hor x l : Nat) * (x : Int) + (n : Nat)) : Nat) = _
    rw [c_md, c_add, c_mul, hor_ev x l]
    exact gev _ _ _
def pw (x : F) : Nat → F
  | 0 => 1
  | n + 1 => pw x n * x
theorem pw_px0 {R : Type} [Po.Fd R] (a b : R) : a * b = b * a := by grind
theorem pw_px (x : F) : ∀ n, pw x n = Px.px x n
  | 0 => rfl
  | n + 1 => by
    show pw x n * x = x * Px.px x n
    rw [pw_px x n]
    exact pw_px0 _ _
theorem pw_val (x : F) : ∀ n, (pw x n).val = x.val ^ n % Pr.P
  | 0 => rfl
  | n + 1 => by
    show (pw x n * x).val = _
    rw [Fin.val_mul, pw_val x n, Nat.pow_succ, Nat.mod_mul_mod]
theorem g7 {R : Type} [Po.Fd R] (a x : R) : a * (x * x) = (a * x) * x := by grind
theorem g8 {R : Type} [Po.Fd R] (a b x : R) : (a * b) * x = (a * x) * b := by grind
theorem pw_two (x : F) : ∀ n, pw (x * x) n = pw x (2 * n)
  | 0 => rfl
  | n + 1 => by
    show pw (x * x) n * (x * x) = pw x (2 * n) * x * x
    rw [pw_two x n]
    exact g7 _ _
theorem pw_inv {n : Nat} (h0 : 0 < n) (h : n < 2305843009213693951) : pw (c (n : Nat)) 2305843009213693949 * c (n : Nat) = 1 := by
  have e : pw (c (n : Nat)) 2305843009213693949 * c (n : Nat) = pw (c (n : Nat)) 2305843009213693950 := rfl
  rw [e]
  refine Fin.ext ?_
  rw [pw_val]
  have hv : (c (n : Nat)).val = n := md_id h
  rw [hv]
  exact Pr.fermat (x := n) (by show n % 2305843009213693951 ≠ 0; omega)
theorem fz0 {R : Type} [Po.Fd R] (a : R) : 0 + 1 * a = a := by grind
theorem fz (a : F) : c 0 + c 1 * a = a := by
  rw [c_zero, c_one]
  exact fz0 _
theorem fo (a : F) : c 1 * a = a := by
  rw [c_one]
  exact Lean.Grind.Semiring.one_mul _
theorem fm (a b : F) : a * pw b 0 = a := Lean.Grind.Semiring.mul_one _
theorem g9 {R : Type} [Po.Fd R] (a b : R) : a = a + b * 0 := by grind
theorem g10 {R : Type} [Po.Fd R] (a x b : R) : (a * x) * b = a * (b * x) := by grind
def rLenQ (K : PySem.W.Frag) : List V → Hp → VK → Prop := fun xs H Q => ∃ p ys, xs = [V.ref p] ∧ (SqL K H p ys ∨ SqT K H p ys) ∧ Q (V.int (ys.length : Nat)) H
theorem f1 {R : Type} [Po.Fd R] (p n x q e : R) : (p + n * q) + (q * x) * e = p + q * (n + x * e) := by grind
section
variable {P : Program} {w : World} {K : PySem.W.Frag} {mg : Str → Option Value} {base : Heap}
theorem ok_pr {f : Addr} {fd : FuncData} (D : Dfn K mg "_law_prime" s_law_prime p_law_prime f fd) : FnOk P w K mg base CX0 1 f fd p_law_prime spPr := by
  have nd := sc_law_prime.nd
  refine D.F.ok sc_law_prime (fun vs H Q E h => ?_) (fun cdv A outer s H vs Q E hr h => ?_)
  · obtain ⟨rfl, _⟩ := h
    rfl
  · obtain ⟨rfl, q⟩ := h
    exact ⟨_, pss_one (ps_ret pe_int), q⟩
theorem ok_at {f fP : Addr} {fd fdP : FuncData} (D : Dfn K mg "_law_at" s_law_at p_law_at f fd) (B : Bi mg) (DP : Dfn K mg "_law_prime" s_law_prime p_law_prime fP fdP) : FnOk P w K mg base CX0 2 f fd p_law_at (spAt K) := by
  have GP : FnOk P w K mg base CX0 1 fP fdP p_law_prime spPr := ok_pr DP
  have nd := sc_law_at.nd
  refine D.F.ok sc_law_at (fun vs H Q E h => ?_) (fun cdv A outer s H vs Q E hr h => ?_)
  · obtain ⟨a, l, x, rfl, _⟩ := h
    rfl
  · obtain ⟨a, l, x, rfl, hs, hpm, hx, q⟩ := h
    refine ⟨_, pss_cons (ps_asg (g := gTup K 2 (gCons (gName 2) (gCons (gName 3) gNil))) (pe_tup (pa_cons pe_int (pa_cons pe_int pa_nil))) (by exact pg_tup rfl (pgs_cons (pg_name (i := 2) nd rfl (.inl rfl)) (pgs_cons (pg_name (i := 3) nd rfl (.inl rfl)) pgs_nil))))
      (pss_cons (ps_for PassesOwn.never rfl (pi_tup (pv 0)) (pg_name (i := 4) nd rfl (.inl rfl))
        (pss_one (ps_par (i := 2) (j := 3) (by rfl) nd rfl rfl (by decide) rfl rfl
          (pa_cons (pe_op op_mod (pe_callTy call_int1 (by rfl) B.int (by decide +kernel) (pa_cons (pe_op op_add (pv 2) (pe_op op_mulW (pv 4) (pv 3))) pa_nil)) (pe_call0 GP hr (by rfl) DP.g DP.F.kp DP.b .nil pass0))
          (pa_cons (pe_op op_mod (pe_callTy call_int1 (by rfl) B.int (by decide +kernel) (pa_cons (pe_op op_mulW (pv 3) (pv 1)) pa_nil)) (pe_call0 GP hr (by rfl) DP.g DP.F.kp DP.b .nil pass0)) pa_nil)) (by rfl))))
      (pss_one (ps_ret (pv 2)))), ?_⟩
    refine ⟨by decide, fun tp0 ntp => ⟨tp0, _, rfl, SqT.of upd_same, rfl, _, _, rfl, _, _, rfl, rfl, ?_⟩⟩
    have st : Same H (upd H tp0 (.tup [.int 0, .int 1])) := Same.new ntp
    generalize upd H tp0 (.tup [.int 0, .int 1]) = H0 at st
    have hs0 := Same.seqT st hs
    refine ⟨_, rfl, a, rfl, ⟨_, hs0⟩, ?_⟩
    refine for_tup (K := K) (a := a) (xs := bV l) (fun i σ H1 => H1 = H0 ∧ ∃ (u v : Nat) (v4 : Option V), σ = [some (.ref a), some (.int x), some (.int u), some (.int v), v4] ∧ u < 2305843009213693951 ∧ v < 2305843009213693951 ∧ c (u : Nat) + c (v : Nat) * ev (c (x : Nat)) (l.drop i) = ev (c (x : Nat)) l)
      ⟨rfl, 0, 1, none, rfl, by decide, by decide, by rw [List.drop_zero]; exact fz _⟩ (fun i σ H1 hi h => by rw [h.1]; exact hs0) ?_ ?_
    · rintro i y σ H1 hy ⟨rfl, u, v, v4, rfl, hu, hv, he⟩
      obtain ⟨n, hn, rfl⟩ := bV_get hy
      have hn2 := hpm n (List.mem_of_getElem? hn)
      have hi : i < l.length := (List.getElem?_eq_some_iff.mp hn).1
      refine ⟨_, rfl, _, rfl, _, rfl, _, _, rfl, rfl, wide_mul (a := 62) (b := 62) (by omega) (by omega) (by decide) (by decide) (by decide), _, _, rfl, rfl, .inl ⟨_, rfl, rfl, _, _, rfl, rfl, (by show (0 : Int) < 2305843009213693951; decide), ?_⟩⟩
      refine ⟨_, rfl, _, rfl, _, _, rfl, rfl, wide_mul (a := 62) (b := 62) (by omega) (by omega) (by decide) (by decide) (by decide), .inl ⟨_, rfl, rfl, _, _, rfl, rfl, (by show (0 : Int) < 2305843009213693951; decide), _, _, rfl, ?_⟩⟩
      refine ⟨rfl, md ((u : Nat) + (n : Nat) * (v : Int)), md ((v : Nat) * (x : Int)), some (.int n), ?_, md_lt _, md_lt _, ?_⟩
      · show [_, _, some (V.int (((u : Int) + (n : Int) * (v : Int)) % 2305843009213693951)), some (V.int ((v : Int) * (x : Int) % 2305843009213693951)), _] = _
        rw [← md_int, ← md_int]
      · rw [c_md, c_md, c_add, c_mul, c_mul, ← he]
        have hd : l.drop i = n :: l.drop (i + 1) := by
          rw [List.drop_eq_getElem_cons hi]
          congr 1
          exact (List.getElem?_eq_some_iff.mp hn).2
        rw [hd]
        exact f1 _ _ _ _ _
    · rintro σ H1 ⟨rfl, u, v, v4, rfl, hu, hv, he⟩
      rw [bV_len, List.drop_length] at he
      have hh : u = hor x l := by
        refine c_inj hu (hor_lt x l) ?_
        rw [hor_ev, ← he]
        exact g9 _ _
      subst hh
      exact ⟨_, rfl, q _ st⟩
theorem ok_pw {f fP : Addr} {fd fdP : FuncData} (D : Dfn K mg "_law_power" s_law_power p_law_power f fd) (B : Bi mg) (DP : Dfn K mg "_law_prime" s_law_prime p_law_prime fP fdP) : FnOk P w K mg base CX0 2 f fd p_law_power spPw := by
  have GP : FnOk P w K mg base CX0 1 fP fdP p_law_prime spPr := ok_pr DP
  have nd := sc_law_power.nd
  refine D.F.ok sc_law_power (fun vs H Q E h => ?_) (fun cdv A outer s H vs Q E hr h => ?_)
  · obtain ⟨n, e, rfl, _⟩ := h
    rfl
  · obtain ⟨n, e, rfl, h1, he64, q⟩ := h
    refine ⟨_, pss_cons (ps_set (i := 2) nd rfl (.inl rfl) pe_int)
      (pss_cons (ps_for PassesOwn.never rfl (pi_range1 (by rfl) B.range (pa_cons pe_int pa_nil)) (pg_name (i := 3) nd rfl (.inl rfl))
        (pss_cons (ps_if (pt_cmpR op_eq (pe_op op_and (pe_op op_shr (pv 1) (pv 3)) pe_int) pe_int (nomark _))
          (pss_one (ps_set (i := 2) nd rfl (.inl rfl) (pe_op op_mod (pe_callTy call_int1 (by rfl) B.int (by decide +kernel) (pa_cons (pe_op op_mulW (pv 2) (pv 0)) pa_nil)) (pe_call0 GP hr (by rfl) DP.g DP.F.kp DP.b .nil pass0)))) pss_nil)
        (pss_one (ps_set (i := 0) nd rfl (.inl rfl) (pe_op op_mod (pe_callTy call_int1 (by rfl) B.int (by decide +kernel) (pa_cons (pe_op op_mulW (pv 0) (pv 0)) pa_nil)) (pe_call0 GP hr (by rfl) DP.g DP.F.kp DP.b .nil pass0))))))
      (pss_one (ps_ret (pv 2)))), ?_⟩
    refine ⟨64, rfl, by decide, by decide, ?_⟩
    refine for_range (n := 64) (fun i σ H1 => H1 = H ∧ ∃ (m u : Nat) (v3 : Option V), σ = [some (.int m), some (.int e), some (.int u), v3] ∧ m < 2305843009213693951 ∧ u < 2305843009213693951 ∧ c (u : Nat) * pw (c (m : Nat)) (e >>> i) = pw (c (n : Nat)) e)
      ⟨rfl, n, 1, none, rfl, h1, by decide, fo _⟩ ?_ ?_
    · rintro i σ H1 hi ⟨rfl, m, u, v3, rfl, hm, hu, he⟩
      have hsh : e >>> i = 2 * (e >>> (i + 1)) + (e >>> i) % 2 := by
        rw [Nat.shiftRight_succ]
        omega
      have hb : V.bl (decide (V.int (Builtin.bitAnd ((e : Int) / 2 ^ ((0 : Int) + (i : Int)).toNat) 1) = V.int 1)) = V.bl (decide ((e >>> i) &&& 1 = 1)) := by
        rw [show (0 : Int) + (i : Int) = (i : Int) by omega]
        exact bit_test e i
      rw [Nat.and_one_is_mod] at hb
      refine ⟨_, rfl, _, rfl, _, _, rfl, rfl, (by omega), _, _, rfl, rfl, rfl, _, hb, ?_⟩
      have e2 := pw_two (c (m : Nat)) (e >>> (i + 1))
      generalize e >>> (i + 1) = k at hsh e2
      generalize e >>> i = z at hsh he
      by_cases ho : z % 2 = 1
      · rw [decide_eq_true ho]
        refine iteT ?_
        rw [ho] at hsh
        refine ⟨_, rfl, _, rfl, _, _, rfl, rfl, wide_mul (a := 62) (b := 62) (by omega) (by omega) (by decide) (by decide) (by decide), .inl ⟨_, rfl, rfl, _, _, rfl, rfl, (by show (0 : Int) < 2305843009213693951; decide), ?_⟩⟩
        refine ⟨_, rfl, _, rfl, _, _, rfl, rfl, wide_mul (a := 62) (b := 62) (by omega) (by omega) (by decide) (by decide) (by decide), .inl ⟨_, rfl, rfl, _, _, rfl, rfl, (by show (0 : Int) < 2305843009213693951; decide), ?_⟩⟩
        refine ⟨rfl, md ((m : Nat) * (m : Int)), md ((u : Nat) * (m : Int)), some (.int ((0 : Int) + (i : Int))), ?_, md_lt _, md_lt _, ?_⟩
        · rw [md_int, md_int]
          rfl
        · rw [c_md, c_md, c_mul, c_mul, e2, ← he, hsh]
          exact g10 _ _ _
      · rw [decide_eq_false ho]
        refine iteF ?_
        rw [show z % 2 = 0 by omega, Nat.add_zero] at hsh
        refine ⟨_, rfl, _, rfl, _, _, rfl, rfl, wide_mul (a := 62) (b := 62) (by omega) (by omega) (by decide) (by decide) (by decide), .inl ⟨_, rfl, rfl, _, _, rfl, rfl, (by show (0 : Int) < 2305843009213693951; decide), ?_⟩⟩
        refine ⟨rfl, md ((m : Nat) * (m : Int)), u, some (.int ((0 : Int) + (i : Int))), ?_, md_lt _, hu, ?_⟩
        · rw [md_int]
          rfl
        · rw [c_md, c_mul, e2, ← he, hsh]
    · rintro σ H1 ⟨rfl, m, u, v3, rfl, hm, hu, he⟩
      refine ⟨_, rfl, q u hu ?_⟩
      have h64 : e >>> 64 = 0 := by rw [Nat.shiftRight_eq_div_pow]; exact Nat.div_eq_of_lt he64
      rw [h64] at he
      rw [← pw_px, ← he]
      exact (fm _ _).symm
theorem ok_fr {f fP : Addr} {fd fdP : FuncData} (D : Dfn K mg "_law_from_roots" s_law_from_roots p_law_from_roots f fd) (B : Bi mg) (DP : Dfn K mg "_law_prime" s_law_prime p_law_prime fP fdP) : FnOk P w K mg base CX0 2 f fd p_law_from_roots (spFr K) := by
  have GP : FnOk P w K mg base CX0 1 fP fdP p_law_prime spPr := ok_pr DP
  have nd := sc_law_from_roots.nd
  refine D.F.ok sc_law_from_roots (fun vs H Q E h => ?_) (fun cdv A outer s H vs Q E hr h => ?_)
  · obtain ⟨a, rs, rfl, _⟩ := h
    rfl
  · obtain ⟨a, rs, rfl, hs, hpm, hl, q⟩ := h
    refine ⟨_, pss_cons (ps_set (i := 1) nd rfl (.inr rfl) (pe_lst (pa_cons pe_int pa_nil)))
      (pss_cons (ps_for PassesOwn.never rfl (pi_list (pv 0)) (pg_name (i := 2) nd rfl (.inr rfl))
        (pss_one (ps_set (i := 1) nd rfl (.inr rfl) (pe_lc (own := [("k", 3)]) (g := gName 3) (tt := tYes) rfl nd
          (pi_range1 (by rfl) B.range (pa_cons (pe_op op_add (pe_callB call_len_seq (by rfl) B.len PySem.boot_len (pa_cons (pv 1) pa_nil)) pe_int) pa_nil))
          (blkOk_by (N := n_law_from_roots) (sc := defScope s_law_from_roots) (by decide +kernel)) (fun _ _ _ _ _ => pg_name (i := 3) nd rfl (.inl rfl)) (fun _ _ _ _ _ => pts_nil)
          (fun _ _ _ _ _ => pe_op op_mod (pe_callTy call_int1 (by rfl) B.int (by decide +kernel) (pa_cons (pe_op op_sub
              (pe_ifExp (pt_cmpR op_gt (pv 3) pe_int (nomark _)) (pe_ix (r := rIxL K) ix_list (pv 1) (pe_op op_sub (pv 3) pe_int) (fun _ _ => rfl)) pe_int)
              (pe_op op_mulW (pv 2) (pe_ifExp (pt_cmpR op_lt (pv 3) (pe_callB (r := rLenQ K) call_len_seq (by rfl) B.len PySem.boot_len (pa_cons (pv 1) pa_nil)) (nomark _)) (pe_ix (r := rIxL K) ix_list (pv 1) (pv 3) (fun _ _ => rfl)) pe_int))) pa_nil))
            (pe_call0 GP hr (by rfl) DP.g DP.F.kp DP.b .nil pass0))))))
      (pss_one (ps_ret (pe_callTy call_tuple_of (by rfl) B.tuple (by decide +kernel) (pa_cons (pv 1) pa_nil))))), ?_⟩
    refine ⟨by decide, fun o no => ?_⟩
    have s1 : Same H (upd H o (.lst [.int 1])) := Same.new no
    refine ⟨_, rfl, a, rfl, ⟨_, s1.seq hs⟩, ?_⟩
    refine for_list (K := K) (a := a) (xs := bV rs) (fun i σ H1 => ∃ (pl : Addr) (v2 v3 : Option V), σ = [some (.ref a), some (.ref pl), v2, v3] ∧ Same H H1 ∧ H pl = none ∧ H1 pl = some (.lst (bV (rp [1] (rs.take i))))) ⟨o, none, none, rfl, s1, no, upd_same⟩ ?_ ?_ ?_
    · rintro i σ H1 hi ⟨pl, v2, v3, rfl, s2, np, hpl⟩
      exact s2.seq hs
    · rintro i x σ H1 hx ⟨pl, v2, v3, rfl, s2, np, hpl⟩
      obtain ⟨r, hr1, rfl⟩ := bV_get hx
      have hi : i < rs.length := (List.getElem?_eq_some_iff.mp hr1).1
      have hrP := hpm r (List.mem_of_getElem? hr1)
      have hlm := rp_pm (rs.take i) [1] pm_one
      have hll : (rp [1] (rs.take i)).length ≤ 61 := by
        rw [rp_len, List.length_take]
        show 1 + _ ≤ 61
        omega
      rw [rp_more [1] hr1]
      generalize rp [1] (rs.take i) = l at hpl hlm hll
      refine ⟨_, rfl, pl, _, rfl, .inl (SqL.of hpl), _, _, rfl, rfl, l.length + 1, ?_, by omega, by omega, fun Dl hD => ?_⟩
      · rw [bV_len]
      refine lc_range (lo := 0) (n := l.length + 1) (fun j H4 => Same H1 H4 ∧ H4 Dl = some (.lst (bV ((mr r l).take j)))) ?_ ?_ ?_
      · exact ⟨Same.new hD, by rw [upd_same]; rfl⟩
      · rintro j H4 hj ⟨s4, hd4⟩
        have hpl4 := s4 _ _ hpl
        have hmj := mr_at r l j hj
        have hbd := hlm.at j
        refine ⟨rfl, ?_⟩
        refine yes ?_
        have fin : ∀ (x1 x2 : Int), x1 = ((if j = 0 then 0 else l.getD (j - 1) 0 : Nat) : Int) → x2 = ((l.getD j 0 : Nat) : Int) → ∃ acc, H4 Dl = some (.lst acc) ∧ acc.length < sizeLine ∧ (Same H1 (upd H4 Dl (.lst (acc ++ [V.int ((x1 - (r : Int) * x2) % 2305843009213693951)]))) ∧ (upd H4 Dl (.lst (acc ++ [V.int ((x1 - (r : Int) * x2) % 2305843009213693951)]))) Dl = some (.lst (bV ((mr r l).take (j + 1))))) := by
          rintro x1 x2 rfl rfl
          refine ⟨_, hd4, ?_, fun b u hb => ?_, ?_⟩
          · rw [bV_len, List.length_take, sizeLine_eq]
            omega
          · rw [upd_ne (ne_of_none hb hD)]
            exact s4 _ _ hb
          · rw [upd_same, take_more hmj, ← bV_append, ← md_int]
            rfl
        refine ⟨_, rfl, _, _, rfl, rfl, _, rfl, ?_⟩
        by_cases hj0 : j = 0
        · rw [decide_eq_false (show ¬ (0 : Int) < 0 + (j : Int) by omega)]
          refine iteF ?_
          refine ⟨_, rfl, _, rfl, _, rfl, pl, _, rfl, .inl (SqL.of hpl4), _, _, rfl, rfl, _, rfl, ?_⟩
          rw [bV_len]
          by_cases hjl : j < l.length
          · rw [decide_eq_true (show (0 : Int) + (j : Int) < (l.length : Int) by omega)]
            refine iteT ?_
            refine ⟨_, rfl, _, rfl, pl, _, _, _, rfl, rfl, SqL.of hpl4, at_of (j := j) (by omega) (bV_at (pg_at hjl)), _, _, rfl, rfl, wide_mul (a := 62) (b := 62) (by omega) (by omega) (by decide) (by decide) (by decide), _, _, rfl, rfl, .inl ⟨_, rfl, rfl, _, _, rfl, rfl, (by show (0 : Int) < 2305843009213693951; decide), ?_⟩⟩
            exact fin 0 _ (by rw [if_pos hj0]; rfl) rfl
          · rw [decide_eq_false (show ¬ (0 : Int) + (j : Int) < (l.length : Int) by omega)]
            refine iteF ?_
            refine ⟨_, _, rfl, rfl, wide_mul (a := 62) (b := 62) (by omega) (by omega) (by decide) (by decide) (by decide), _, _, rfl, rfl, .inl ⟨_, rfl, rfl, _, _, rfl, rfl, (by show (0 : Int) < 2305843009213693951; decide), ?_⟩⟩
            exact fin 0 0 (by rw [if_pos hj0]; rfl) (by rw [List.getD_eq_getElem?_getD, List.getElem?_eq_none (by omega)]; rfl)
        · rw [decide_eq_true (show (0 : Int) < 0 + (j : Int) by omega)]
          refine iteT ?_
          refine ⟨_, rfl, _, rfl, _, _, rfl, rfl, pl, _, _, _, rfl, rfl, SqL.of hpl4, at_of (j := j - 1) (by omega) (bV_at (pg_at (by omega))), ?_⟩
          refine ⟨_, rfl, _, rfl, _, rfl, pl, _, rfl, .inl (SqL.of hpl4), _, _, rfl, rfl, _, rfl, ?_⟩
          rw [bV_len]
          by_cases hjl : j < l.length
          · rw [decide_eq_true (show (0 : Int) + (j : Int) < (l.length : Int) by omega)]
            refine iteT ?_
            refine ⟨_, rfl, _, rfl, pl, _, _, _, rfl, rfl, SqL.of hpl4, at_of (j := j) (by omega) (bV_at (pg_at hjl)), _, _, rfl, rfl, wide_mul (a := 62) (b := 62) (by omega) (by omega) (by decide) (by decide) (by decide), _, _, rfl, rfl, .inl ⟨_, rfl, rfl, _, _, rfl, rfl, (by show (0 : Int) < 2305843009213693951; decide), ?_⟩⟩
            exact fin _ _ (by rw [if_neg hj0]) rfl
          · rw [decide_eq_false (show ¬ (0 : Int) + (j : Int) < (l.length : Int) by omega)]
            refine iteF ?_
            refine ⟨_, _, rfl, rfl, wide_mul (a := 62) (b := 62) (by omega) (by omega) (by decide) (by decide) (by decide), _, _, rfl, rfl, .inl ⟨_, rfl, rfl, _, _, rfl, rfl, (by show (0 : Int) < 2305843009213693951; decide), ?_⟩⟩
            exact fin _ 0 (by rw [if_neg hj0]) (by rw [List.getD_eq_getElem?_getD, List.getElem?_eq_none (by omega)]; rfl)
      · rintro H4 ⟨s4, hd4⟩
        rw [List.take_of_length_le (by rw [mr_len]; exact Nat.le_refl _)] at hd4
        exact ⟨Dl, some (.int r), v3, rfl, s2.trans s4, s2.free hD, hd4⟩
    · rintro σ H1 ⟨pl, v2, v3, rfl, s2, np, hpl⟩
      rw [bV_len, List.take_length] at hpl
      refine ⟨_, rfl, pl, _, rfl, .inl ⟨SqL.of hpl, fun p npp => ?_⟩⟩
      exact q p _ (s2.trans (Same.new npp)) (s2.free npp) upd_same
end
section
variable {P : Program} {w : World} {K : PySem.W.Frag} {mg : Str → Option Value} {base : Heap}
abbrev s_law_order : Stmt := top 34
abbrev n_law_order : List Str := ["row", "many", "left", "found", "turn", "at"]
abbrev p_law_order : List Str := ["row", "many"]
theorem sc_law_order : FnScope n_law_order p_law_order (defScope s_law_order) := ⟨rfl, rfl, rfl, by decide +kernel, rfl, by decide +kernel, by decide +kernel⟩
/-- an order of so many places: each once -/
def spOrder (K : PySem.W.Frag) : Sp := fun vs H Q _ => ∃ (r sc : Addr) (ns : List Int) (many : Nat), vs = [.ref r, .int many] ∧ RowI K H r sc ns ∧ many ≤ 10000 ∧
  ∀ (p : Addr) (o : List Nat) (H' : Hp), o.length = many → o.Nodup → (∀ k, k ∈ o → k < many) → H p = none → H' p = some (.lst (bV o)) → RowI K H' r sc ns → Keep r H H' → Q (.ref p) H'
theorem rg_bV (n : Nat) : rgV 0 (n : Int) = bV (List.range n) := by
  unfold rgV bV
  rw [show ((n : Int) - 0).toNat = n by omega]
  congr 1
  funext i
  rw [Int.zero_add]
theorem cut_to (l : List Nat) (k : Nat) : cutV (bV l) none (some (k : Int)) = bV (l.take k) := by
  unfold cutV
  rw [HT.sIx_none, HT.sIx_nat, List.drop_zero, Nat.sub_zero, bV_len]
  unfold bV
  rw [← List.map_take]
  congr 1
  rw [← List.take_eq_take_min]
theorem cut_from (l : List Nat) (k : Nat) : cutV (bV l) (some (k : Int)) none = bV (l.drop k) := by
  unfold cutV
  rw [HT.sIx_none, HT.sIx_nat, bV_len]
  unfold bV
  rw [← List.map_drop, ← List.map_take]
  congr 1
  rw [List.take_of_length_le (by rw [List.length_drop]; exact Nat.le_refl _)]
  by_cases h : k ≤ l.length
  · rw [Nat.min_eq_left h]
  · rw [Nat.min_eq_right (by omega), List.drop_of_length_le (Nat.le_refl _), List.drop_of_length_le (by omega)]
theorem ok_order {f fT : Addr} {fd fdT : FuncData} (D : Dfn K mg "_law_order" s_law_order p_law_order f fd) (B : Bi mg) (DT : Dfn K mg "_law_taken" s_law_taken p_law_taken fT fdT) : FnOk P w K mg base CX0 2 f fd p_law_order (spOrder K) := by
  have GT : FnOk P w K mg base CX0 1 fT fdT p_law_taken (spTaken K) := ok_taken DT B
  have nd := sc_law_order.nd
  refine D.F.ok sc_law_order (fun vs H Q E h => ?_) (fun cdv A outer s H vs Q E hr h => ?_)
  · obtain ⟨r, sc, ns, many, rfl, _⟩ := h
    rfl
  · obtain ⟨r, sc, ns, many, rfl, R, hm, q⟩ := h
    refine ⟨_, pss_cons (ps_par (i := 2) (j := 3) (by rfl) nd rfl rfl (by decide) rfl rfl (pa_cons (pe_listRg (by rfl) (by rfl) B.list (prg_1 (by rfl) B.range (pv 1))) (pa_cons (pe_lst pa_nil) pa_nil)) (by rfl))
      (pss_cons (ps_for PassesOwn.never rfl (pi_range1 (by rfl) B.range (pa_cons (pv 1) pa_nil)) (pg_name (i := 4) nd rfl (.inl rfl))
        (pss_cons (ps_set (i := 5) nd rfl (.inl rfl) (pe_call GT hr (by rfl) DT.g DT.F.kp DT.b .nil pass0 (pa_cons (pv 0) (pa_cons (pe_callB call_len_seq (by rfl) B.len PySem.boot_len (pa_cons (pv 2) pa_nil)) pa_nil))))
        (pss_cons (ps_expr (pe_bm PySem.F.plainAttrs_list PySem.F.slot_list_append PySem.F.type_list_append mt_append (pv 3) (pa_cons (pe_ix ix_list (pv 2) (pv 5) (fun _ _ => rfl)) pa_nil)))
        (pss_one (ps_set (i := 2) nd rfl (.inl rfl) (pe_op op_cat (pe_slice sl_list (pv 2) po_none (po_some (pv 5))) (pe_slice sl_list (pv 2) (po_some (pe_op op_add (pv 5) pe_int)) po_none)))))))
      (pss_one (ps_ret (pv 3)))), ?_⟩
    refine ⟨_, rfl, many, rfl, .of_le (by omega) (by omega) (by omega) (by omega), fun l nl => ⟨Nat.zero_le _, fun o no => ⟨_, _, rfl, ?_⟩⟩⟩
    rw [rg_bV] at no
    rw [rg_bV]
    have sl : Same H (upd H l (.lst (bV (List.range many)))) := Same.new nl
    have so : Same H (upd (upd H l (.lst (bV (List.range many)))) o (.lst [])) := sl.trans (Same.new no)
    have hor : o ≠ r := (R.same sl).new no
    have hoH : H o = none := sl.free no
    have hlo : l ≠ o := fun e => by rw [← e, upd_same] at no; cases no
    refine ⟨_, rfl, many, rfl, by omega, by omega, ?_⟩
    refine for_range (n := many) (fun i σ H1 => ∃ (la : Addr) (L F : List Nat) (v4 v5 : Option V), σ = [some (.ref r), some (.int many), some (.ref la), some (.ref o), v4, v5] ∧ RowI K H1 r sc ns ∧ Keep r H H1 ∧ la ≠ r ∧ la ≠ o ∧ H1 la = some (.lst (bV L)) ∧ H1 o = some (.lst (bV F)) ∧ F.length = i ∧ L.length + F.length = many ∧ (F ++ L).Nodup ∧ ∀ k, k ∈ F ++ L → k < many)
      ⟨l, List.range many, [], none, none, rfl, R.same so, Keep.of so, R.new nl, hlo, by rw [upd_ne hlo]; exact upd_same, upd_same, rfl, by rw [List.length_range]; rfl, List.nodup_range, fun k hk => List.mem_range.mp hk⟩ ?_ ?_
    · rintro i σ H1 hi ⟨la, L, F, v4, v5, rfl, R1, k1, nlr, nlo, hla, hoF, hF, hLF, hnd, hk⟩
      refine ⟨_, rfl, _, rfl, la, _, rfl, .inl (SqL.of hla), r, sc, ns, _, rfl, R1, by rw [bV_len]; omega, by rw [bV_len]; omega, fun v H2 v0 v1 R2 k2 => ?_⟩
      rw [bV_len] at v1
      obtain ⟨j, rfl⟩ := Int.eq_ofNat_of_zero_le v0
      have hj : j < L.length := by omega
      have hla2 := k2 _ _ nlr hla
      have hoF2 := k2 _ _ hor hoF
      have hgj : L[j]? = some L[j] := List.getElem?_eq_getElem hj
      refine ⟨_, rfl, .inl ⟨rfl, _, SqL.of hoF2⟩, _, rfl, _, rfl, la, _, _, _, rfl, rfl, SqL.of hla2, at_of (j := j) rfl (bV_at hgj), o, _, _, rfl, rfl, hoF2, ?_, ?_⟩
      · rw [bV_len]
        exact Nat.lt_of_le_of_lt (show F.length ≤ 10000 by omega) (by decide)
      have kk : Keep r H (L2.upd H2 o (.lst (bV F ++ [.int (L[j] : Nat)]))) := fun b u n e => by
        rw [upd_ne (ne_of_none e hoH)]
        exact (k1.trans k2) b u n e
      have R3 := R2.ups R hor kk
      have hla3 : L2.upd H2 o (.lst (bV F ++ [.int (L[j] : Nat)])) la = some (.lst (bV L)) := by rw [upd_ne nlo]; exact hla2
      have ho3 : L2.upd H2 o (.lst (bV F ++ [.int (L[j] : Nat)])) o = some (.lst (bV F ++ [.int (L[j] : Nat)])) := upd_same
      generalize L2.upd H2 o (.lst (bV F ++ [.int (L[j] : Nat)])) = H3 at *
      refine ⟨_, rfl, _, rfl, _, rfl, la, _, rfl, SqL.of hla3, fun x nx => ?_⟩
      have sx : Same H3 (upd H3 x (.lst (cutV (bV L) none (some (j : Int))))) := Same.new nx
      refine ⟨_, rfl, _, rfl, _, _, rfl, rfl, _, rfl, la, _, rfl, SqL.of (sx _ _ hla3), fun y ny => ?_⟩
      have sy := Same.new (o := .lst (cutV (bV L) (some ((j : Int) + 1)) none)) ny
      have ex : cutV (bV L) none (some (j : Int)) = bV (L.take j) := cut_to L j
      have ey : cutV (bV L) (some ((j : Int) + 1)) none = bV (L.drop (j + 1)) := cut_from L (j + 1)
      refine ⟨x, y, _, _, rfl, rfl, sy _ _ upd_same, upd_same, ?_, fun z nz => ?_⟩
      · rw [ex, ey, bV_len, bV_len, List.length_take, List.length_drop]
        exact Nat.le_trans (show _ ≤ 10000 by omega) (by decide)
      have sz := Same.new (o := .lst (cutV (bV L) none (some (j : Int)) ++ cutV (bV L) (some ((j : Int) + 1)) none)) nz
      have sxyz := (sx.trans sy).trans sz
      have hperm : ((F ++ [L[j]]) ++ (L.take j ++ L.drop (j + 1))).Perm (F ++ L) := by
        rw [List.append_assoc]
        refine List.Perm.append_left F ?_
        have e : L = L.take j ++ (L[j] :: L.drop (j + 1)) := by
          rw [List.getElem_cons_drop, List.take_append_drop]
        have p1 : ([L[j]] ++ (L.take j ++ L.drop (j + 1))).Perm (L.take j ++ (L[j] :: L.drop (j + 1))) := by
          show (L[j] :: (L.take j ++ L.drop (j + 1))).Perm _
          exact List.perm_middle.symm
        exact p1.trans (by rw [← e])
      refine ⟨z, L.take j ++ L.drop (j + 1), F ++ [L[j]], _, _, rfl, R3.same sxyz, kk.trans (Keep.of sxyz), R3.new ((sx.trans sy).free nz), ?_, ?_, ?_, ?_, ?_, ?_, ?_⟩
      · exact fun e => by
          have := (sx.trans sy) _ _ ho3
          rw [e, this] at nz
          cases nz
      · rw [upd_same, ex, ey, bV_append]
      · rw [bV_app]
        exact sxyz _ _ ho3
      · rw [List.length_append, hF]
        rfl
      · rw [List.length_append, List.length_append, List.length_take, List.length_drop]
        show _ + (F.length + 1) = many
        omega
      · exact hperm.nodup_iff.mpr hnd
      · exact fun k hk' => hk k (hperm.mem_iff.mp hk')
    · rintro σ H1 ⟨la, L, F, v4, v5, rfl, R1, k1, nlr, nlo, hla, hoF, hF, hLF, hnd, hk⟩
      refine ⟨_, rfl, ?_⟩
      have hL : L = [] := List.eq_nil_of_length_eq_zero (by omega)
      rw [hL, List.append_nil] at hnd hk
      exact q o F _ hF hnd hk hoH hoF R1 k1
end
/-! ### roots; an order of things -/
def spRts (K : PySem.W.Frag) : Sp := fun vs H Q _ => ∃ (a : Addr) (l : List Nat), vs = [.ref a] ∧ SqT K H a (bV l) ∧ Pm l ∧ NoZ l ∧ l ≠ [] ∧ l.length ≤ 61 ∧
  ∀ r : Nat, c (r : Nat) * c (l.getD (l.length - 1) 0 : Nat) = 1 →
    (∀ (M ns : List Nat) (p : Addr) (H' : Hp), M.Nodup → Pm M → scl r l = br M → ns.Perm M → ns.Pairwise (· ≤ ·) → Same H H' → H p = none → H' p = some (.tup (bV ns)) → Q (.ref p) H') ∧
    ((¬ ∃ M : List Nat, M.Nodup ∧ Pm M ∧ scl r l = br M) → ∀ H', Same H H' → Q .non H')
theorem full_perm {o : List Nat} {n : Nat} (hl : o.length = n) (hn : o.Nodup) (hk : ∀ k, k ∈ o → k < n) : o.Perm (List.range n) := by
  rw [List.perm_ext_iff_of_nodup hn List.nodup_range]
  intro a
  refine ⟨fun h => List.mem_range.mpr (hk a h), fun h => Classical.byContradiction fun hno => ?_⟩
  have ha := List.mem_range.mp h
  refine Pr.pigeon n (fun i => if h : i < o.length then o[i] else a) (fun i hi => ?_) (fun i j hi hj e => ?_)
  · show (if h : i < o.length then o[i] else a) < n
    split
    · exact hk _ (List.getElem_mem _)
    · exact ha
  · have e' : (if h : i < o.length then o[i] else a) = (if h : j < o.length then o[j] else a) := e
    split at e' <;> split at e'
    · exact (List.getElem_inj hn).mp e'
    · exact absurd (e' ▸ List.getElem_mem _) hno
    · exact absurd (e' ▸ List.getElem_mem _) hno
    · omega
theorem map_range (l : List Nat) : (List.range l.length).map (fun k => l.getD k 0) = l := by
  refine List.ext_getElem (by rw [List.length_map, List.length_range]) fun i h1 h2 => ?_
  rw [List.getElem_map, List.getElem_range, List.getD_eq_getElem?_getD, List.getElem?_eq_getElem h2]
  rfl
abbrev s_law_order_of : Stmt := top 35
abbrev n_law_order_of : List Str := ["row", "things", "k"]
abbrev p_law_order_of : List Str := ["row", "things"]
theorem sc_law_order_of : FnScope n_law_order_of p_law_order_of (defScope s_law_order_of) := ⟨rfl, rfl, rfl, by decide +kernel, rfl, by decide +kernel, by decide +kernel⟩
def spOof (K : PySem.W.Frag) : Sp := fun vs H Q _ => ∃ (r sc a : Addr) (ns : List Int) (l : List Nat), vs = [.ref r, .ref a] ∧ RowI K H r sc ns ∧ H a = some (.lst (bV l)) ∧ a ≠ r ∧ l.length ≤ 1000 ∧
  ∀ (p : Addr) (l' : List Nat) (H' : Hp), l'.Perm l → H p = none → p ≠ r → H' p = some (.lst (bV l')) → RowI K H' r sc ns → Keep r H H' → Q (.ref p) H'
section
variable {P : Program} {w : World} {K : PySem.W.Frag} {mg : Str → Option Value} {base : Heap}
theorem ok_rts {f fP fM fR : Addr} {fd fdP fdM fdR : FuncData} (D : Dfn K mg "roots" sroots proots f fd) (B : Bi mg) (T : TP mg)
    (DP : Dfn K mg "is_poly" sis_poly pis_poly fP fdP) (GP : FnOk P w K mg base CX0 4 fP fdP pis_poly (spPol K))
    (DM : Dfn K mg "monic" smonic pmonic fM fdM) (GM : FnOk P w K mg base CX0 2 fM fdM pmonic (spMon K))
    (DR : Dfn K mg "roots_of" sroots_of proots_of fR fdR) (GR : FnOk P w K mg base CX0 5 fR fdR proots_of (spRof K)) : FnOk P w K mg base CX0 6 f fd proots (spRts K) := by
  have nd := scroots.nd
  refine D.F.ok scroots (fun vs H Q E h => ?_) (fun cdv A outer s H vs Q E hr h => ?_)
  · obtain ⟨a, l, rfl, _⟩ := h
    rfl
  · obtain ⟨a, l, rfl, ha, pl, zl, hne, ll, q⟩ := h
    have hr4 : Room 4 _ := hr.mono (by decide)
    have hr2 : Room 2 _ := hr.mono (by decide)
    have l0 : 0 < l.length := List.length_pos_iff.mpr hne
    refine ⟨_, pss_cons (ps_if (PW.pt (pw_or (pt_not (pt_val (pe_call GP hr4 (by rfl) DP.g DP.F.kp DP.b .nil pass0 (pa_cons (pv 0) pa_nil)))) (pw_or1 (pt_cmpR (op_eqD hr.units) (pv 0) (pe_tup pa_nil) (nomark _))))) (pss_one ps_never) pss_nil)
      (pss_one (ps_ret (pe_call GR hr (by rfl) DR.g DR.F.kp DR.b .nil pass0 (pa_cons (pe_call GM hr2 (by rfl) DM.g DM.F.kp DM.b .nil pass0 (pa_cons (pv 0) pa_nil)) pa_nil)))), ?_⟩
    refine ⟨_, rfl, a, l, rfl, ha, pl, zl, ll, fun H1 s1 => ⟨_, rfl, ?_⟩⟩
    refine iteF ?_
    have ha1 := Same.seqT s1 ha
    refine ⟨_, rfl, Nat.zero_le _, fun z nz => ?_⟩
    have s2 : Same H1 (upd H1 z (.tup [])) := Same.new nz
    have ha2 := Same.seqT s2 ha1
    refine ⟨.tuple (dI l), .tuple (dI []), .tup ha2 (dI_all _ _ _), .tup (.inl (.inl upd_same)) .nil, dI_shaped (by omega), dI_shaped (by decide), ?_⟩
    rw [dI_eqvT, decide_eq_false hne]
    refine ⟨_, rfl, ?_⟩
    refine iteF ?_
    generalize upd H1 z (.tup []) = H2 at s2 ha2
    refine ⟨_, rfl, a, l, rfl, ha2, pl, zl, ll, fun Mn p H3 hMn s3 hp => ?_⟩
    have s13 := (s1.trans s2).trans s3
    rcases hMn with ⟨e, _⟩ | ⟨_, r, hr1, rfl⟩
    · exact absurd e hne
    obtain ⟨q1, q2⟩ := q r hr1
    have hm := scl_monic hne hr1
    exact ⟨p, scl r l, l.length - 1, rfl, hp, scl_pm r l, by rw [scl_len]; omega, by omega, hm, fun M ns p2 H4 a1 a2 a3 a4 a5 s4 np hp2 => q1 M ns p2 H4 a1 a2 a3 a4 a5 (s13.trans s4) (s13.free np) hp2, fun hno H4 s4 => q2 hno H4 (s13.trans s4)⟩
theorem ok_oof {f fO : Addr} {fd fdO : FuncData} (D : Dfn K mg "_law_order_of" s_law_order_of p_law_order_of f fd) (B : Bi mg) (DO : Dfn K mg "_law_order" s_law_order p_law_order fO fdO) (GO : FnOk P w K mg base CX0 2 fO fdO p_law_order (spOrder K)) : FnOk P w K mg base CX0 3 f fd p_law_order_of (spOof K) := by
  have nd := sc_law_order_of.nd
  refine D.F.ok sc_law_order_of (fun vs H Q E h => ?_) (fun cdv A outer s H vs Q E hr h => ?_)
  · obtain ⟨r, sc, a, ns, l, rfl, _⟩ := h
    rfl
  · obtain ⟨r, sc, a, ns, l, rfl, R, ha, nar, hl, q⟩ := h
    refine ⟨_, pss_one (ps_ret (pe_lc (own := [("k", 2)]) (g := gName 2) (tt := tYes) rfl nd (pi_list (pe_call GO hr (by rfl) DO.g DO.F.kp DO.b .nil pass0 (pa_cons (pv 0) (pa_cons (pe_callB call_len_seq (by rfl) B.len PySem.boot_len (pa_cons (pv 1) pa_nil)) pa_nil))))
        (blkOk_by (N := n_law_order_of) (sc := defScope s_law_order_of) (by decide +kernel)) (fun _ _ _ _ _ => pg_name (i := 2) nd rfl (.inl rfl)) (fun _ _ _ _ _ => pts_nil)
        (fun _ _ _ _ _ => pe_ix (r := rIxL K) ix_list (pv 1) (pv 2) (fun _ _ => rfl)))), ?_⟩
    refine ⟨_, rfl, _, rfl, a, _, rfl, .inl (SqL.of ha), r, sc, ns, l.length, by rw [bV_len]; rfl, R, by omega, fun p o H1 ol on ok np hp R1 k1 => ?_⟩
    have npr := R.new np
    have ha1 := k1 _ _ nar ha
    refine ⟨p, rfl, ⟨_, SqL.of hp⟩, fun Dl hD => ?_⟩
    have nDr := R1.new hD
    refine lc_list (K := K) (a := p) (xs := bV o) (fun i H3 => H3 Dl = some (.lst (bV ((o.take i).map fun k => l.getD k 0))) ∧ Same H1 H3) ⟨upd_same, Same.new hD⟩ (fun i H3 hi h => SqL.of (h.2 _ _ hp)) ?_ ?_
    · rintro i x H3 hx ⟨hd3, s3⟩
      obtain ⟨n, hn, rfl⟩ := bV_get hx
      have hnl := ok n (List.mem_of_getElem? hn)
      have hi : i < o.length := (List.getElem?_eq_some_iff.mp hn).1
      refine ⟨rfl, ?_⟩
      refine yes ?_
      refine ⟨_, rfl, _, rfl, a, _, _, _, rfl, rfl, SqL.of (s3 _ _ ha1), at_of (j := n) rfl (bV_at (pg_at hnl)), ?_⟩
      refine ⟨_, hd3, ?_, ?_, fun b u hb => ?_⟩
      · rw [bV_len, List.length_map, List.length_take, sizeLine_eq]
        omega
      · rw [upd_same, take_more hn, List.map_append]
        show _ = some (HO.lst (bV (_ ++ [l.getD n 0])))
        rw [bV_app]
      · rw [upd_ne (ne_of_none hb hD)]
        exact s3 _ _ hb
    · rintro H3 ⟨hd3, s3⟩
      rw [bV_len, List.take_length] at hd3
      refine q Dl (o.map fun k => l.getD k 0) H3 ?_ (k1.free hD nDr) nDr hd3 (R1.same s3) (k1.trans (Keep.of s3))
      have := (full_perm ol on ok).map fun k => l.getD k 0
      rw [map_range] at this
      exact this
end
end K07
namespace K07
open PySem L2 Pg RZ
/-! ### what the law compares -/
theorem sorted_one : ∀ {a b : List Nat}, a.Perm b → a.Pairwise (· ≤ ·) → b.Pairwise (· ≤ ·) → a = b
  | [], b, h, _, _ => h.symm.eq_nil.symm
  | x :: a, [], h, _, _ => h.eq_nil
  | x :: a, y :: b, h, ha, hb => by
    rw [List.pairwise_cons] at ha hb
    have h1 : x ∈ y :: b := h.mem_iff.mp (by simp)
    have h2 : y ∈ x :: a := h.mem_iff.mpr (by simp)
    have hxy : x = y := by
      rcases List.mem_cons.mp h1 with e | e
      · exact e
      · rcases List.mem_cons.mp h2 with e2 | e2
        · exact e2.symm
        · exact Nat.le_antisymm (ha.1 y e2) (hb.1 x e)
    subst hxy
    rw [sorted_one (List.Perm.cons_inv h) ha.2 hb.2]
theorem cn_val_map {A : List Nat} (h : Pm A) : (A.map Pk.cn).map Fin.val = A := by
  rw [List.map_map]
  conv => rhs; rw [← List.map_id A]
  exact List.map_congr_left fun a ha => md_id (h a ha)
theorem br_inj {A M : List Nat} (hA : Pm A) (hM : Pm M) (h : br A = br M) : A.Perm M := by
  have h1 : Po.prod (A.map Pk.cn) = Po.prod (M.map Pk.cn) := by rw [← cf_br2, ← cf_br2, h]
  have h2 := (Pl.prod_perm _ _ h1).map Fin.val
  rw [cn_val_map hA, cn_val_map hM] at h2
  exact h2
theorem scl_one {r : Nat} {l : List Nat} (hl : Pm l) (h : c (r : Nat) = 1) : scl r l = l := by
  refine cf_eq (scl_pm r l) hl (scl_len r l) ?_
  rw [cf_scl, h]
  funext k
  exact Lean.Grind.Semiring.one_mul _
theorem g1r {R : Type} [Po.Fd R] (r x : R) (h : r * x = 1) (h1 : x = 1) : r = 1 := by grind
theorem scl_last1 {r : Nat} {l : List Nat} (hl : Pm l) (h : c (r : Nat) * c (l.getD (l.length - 1) 0 : Nat) = 1) (h1 : l.getD (l.length - 1) 0 = 1) : scl r l = l := by
  refine scl_one hl (g1r _ _ h ?_)
  rw [h1]
  rfl
theorem br_last1 (M : List Nat) : (br M).getD ((br M).length - 1) 0 = 1 := by
  rw [br_len, Nat.add_sub_cancel, List.getD_eq_getElem?_getD, br_last M]
  rfl
/-- a polynomial of known roots times a number, made monic -/
theorem scl_scl {r x : Nat} {M : List Nat} (hx : x < 2305843009213693951) (h : c (r : Nat) * c ((scl x (br M)).getD ((scl x (br M)).length - 1) 0 : Nat) = 1) : scl r (scl x (br M)) = br M := by
  have h2 : c ((scl x (br M)).getD ((scl x (br M)).length - 1) 0 : Nat) = c (x : Nat) := by
    show cf (scl x (br M)) _ = _
    rw [cf_scl, scl_len]
    show c (x : Nat) * cf (br M) _ = _
    have : cf (br M) ((br M).length - 1) = 1 := by
      show c ((br M).getD _ 0 : Nat) = 1
      rw [br_last1]
      rfl
    rw [this]
    exact Lean.Grind.Semiring.mul_one _
  rw [h2] at h
  refine cf_eq (scl_pm _ _) (br_pm M) (by rw [scl_len, scl_len]) ?_
  rw [cf_scl, cf_scl]
  funext k
  have g : ∀ {R : Type} [Po.Fd R] (r x a : R), r * x = 1 → r * (x * a) = a := fun r x a h => by
    have : r * (x * a) = (r * x) * a := by grind
    rw [this, h]; grind
  exact g _ _ _ h
theorem scl_nz {x : Nat} {M : List Nat} (h0 : 0 < x) (hx : x < 2305843009213693951) : NoZ (scl x (br M)) := by
  refine .inr fun e => ?_
  have h2 : c ((scl x (br M)).getD ((scl x (br M)).length - 1) 0 : Nat) = c (x : Nat) := by
    show cf (scl x (br M)) _ = _
    rw [cf_scl, scl_len]
    show c (x : Nat) * cf (br M) _ = _
    have : cf (br M) ((br M).length - 1) = 1 := by
      show c ((br M).getD _ 0 : Nat) = 1
      rw [br_last1]
      rfl
    rw [this]
    exact Lean.Grind.Semiring.mul_one _
  rw [e] at h2
  exact c_ne hx (by omega) h2.symm
/-- a root more than once -/
theorem twice {x : Nat} {t : List Nat} (hp : Pm (x :: t)) : ¬ ∃ M : List Nat, M.Nodup ∧ Pm M ∧ br ((x :: t) ++ [x]) = br M := by
  rintro ⟨M, hn, hM, e⟩
  have h := br_inj (pm_app hp (fun n hn => by rw [List.mem_singleton.mp hn]; exact hp x (by simp))) hM e
  have h2 := h.nodup_iff.mpr hn
  rw [List.cons_append, List.nodup_cons] at h2
  exact h2.1 (by simp)
/-- the quadratic polynomial -/
abbrev qd (two one : Nat) : List Nat := [two, one, 1]
theorem qd_pm {two one : Nat} (h1 : one < 2305843009213693951) (h2 : two < 2305843009213693951) : Pm (qd two one) := by
  intro n hn
  simp [qd] at hn
  rcases hn with h | h | h <;> omega
theorem qd_nz (two one : Nat) : NoZ (qd two one) := .inr (by show (1 : Nat) ≠ 0; decide)
theorem qd_monic (two one : Nat) : Po.Monic 2 (cf (qd two one)) := ⟨rfl, fun k hk => cf_far (by show 3 ≤ k; omega)⟩
theorem qd_iff {two one : Nat} (h1 : one < 2305843009213693951) (h2 : two < 2305843009213693951) :
    (∃ M : List Nat, M.Nodup ∧ Pm M ∧ qd two one = br M) ↔ Px.px (c (md ((one : Int) * (one : Int) - 4 * (two : Int)) : Nat)) 1152921504606846975 = 1 := by
  have e : c (md ((one : Int) * (one : Int) - 4 * (two : Int)) : Nat) = Pk.cn one * Pk.cn one - 4 * Pk.cn two := by
    rw [c_md, c_sub, c_mul, c_mul]
    rfl
  rw [e]
  have hq := Px.quad (e := Pk.cn one) (g := Pk.cn two)
  have hq2 : Px.px (Pk.cn one * Pk.cn one - 4 * Pk.cn two) 1152921504606846975 = 1 ↔ ∃ r s : F, r ≠ s ∧ Pl.lf [Pk.cn two, Pk.cn one, 1] = Po.prod [r, s] := hq
  rw [hq2]
  have hl : cf (qd two one) = Pl.lf [Pk.cn two, Pk.cn one, 1] := Pk.cf_lf _
  constructor
  · rintro ⟨M, hn, hM, e2⟩
    have hm := br_monic M
    rw [← e2] at hm
    have hl2 : M.length = 2 := mon_len hm (qd_monic two one)
    match M, hl2 with
    | [a, b], _ =>
      refine ⟨Pk.cn a, Pk.cn b, fun e3 => ?_, ?_⟩
      · have : a = b := c_inj (hM a (by simp)) (hM b (by simp)) e3
        rw [this] at hn
        simp at hn
      · rw [← hl, e2, cf_br2]
        rfl
  · rintro ⟨r, s, hrs, e3⟩
    refine ⟨[r.val, s.val], ?_, ?_, ?_⟩
    · rw [List.nodup_cons]
      refine ⟨fun h => hrs (Fin.ext (by simpa using h)), by simp⟩
    · intro n hn
      simp at hn
      rcases hn with h | h
      · rw [h]; exact r.isLt
      · rw [h]; exact s.isLt
    · refine cf_eq (qd_pm h1 h2) (br_pm _) (by rw [br_len]; rfl) ?_
      rw [hl, e3, cf_br2]
      show _ = Po.prod [Pk.cn r.val, Pk.cn s.val]
      rw [Pk.cn_val, Pk.cn_val]
theorem ev_same (x : F) : ∀ l : List Nat, ev x l = Pl.ev (l.map Pk.cn) x
  | [] => rfl
  | n :: l => by
    show c (n : Nat) + x * ev x l = Pk.cn n + x * Pl.ev (l.map Pk.cn) x
    rw [ev_same x l]
    rfl
theorem hor_root {M : List Nat} {x : Nat} (hM : Pm M) (hx : x ∈ M) : hor x (br M) = 0 := by
  refine c_inj (b := 0) (hor_lt x _) (by decide) ?_
  rw [hor_ev, ev_same]
  exact (Pl.ev_prod (M.map Pk.cn) _ _ ((Pk.cf_lf _).symm.trans (cf_br2 M))).mpr (List.mem_map_of_mem hx)
/-- the product -/
theorem wide_cf {sm w : List Nat} {two one : Nat} (h : cf w = Po.mul ((br sm).map Pk.cn) (cf (qd two one))) : cf w = Po.Ls (sm.map Pk.cn) (cf (qd two one)) := by
  rw [h]
  exact Pl.mul_prod _ (us := (br sm).map Pk.cn) ((Pk.cf_lf _).symm.trans (cf_br2 sm)) _
theorem monic_Ls2 {n : Nat} {f : Po.Q F} (hf : Po.Monic n f) : ∀ rs : List F, Po.Monic (rs.length + n) (Po.Ls rs f)
  | [] => by rw [List.length_nil, Nat.zero_add]; exact hf
  | r :: rs => by
    have := monic_L r (monic_Ls2 hf rs)
    rw [List.length_cons, show rs.length + 1 + n = rs.length + n + 1 by omega]
    exact this
theorem wide_monic {sm w : List Nat} {two one : Nat} (h : cf w = Po.Ls (sm.map Pk.cn) (cf (qd two one))) : Po.Monic (sm.length + 2) (cf w) := by
  rw [h]
  have := monic_Ls2 (qd_monic two one) (sm.map Pk.cn)
  rw [List.length_map] at this
  exact this
theorem wide_last {sm w : List Nat} {two one : Nat} (hw : Pm w) (hl : w.length = sm.length + 3) (h : cf w = Po.Ls (sm.map Pk.cn) (cf (qd two one))) : w.getD (w.length - 1) 0 = 1 := by
  have h1 := (wide_monic h).1
  rw [hl, show sm.length + 3 - 1 = sm.length + 2 by omega]
  exact c_inj (hw.at _) (by decide) h1
theorem wide_br {sm w tl : List Nat} {two one : Nat} (hw : Pm w) (hl : w.length = sm.length + 3) (h : cf w = Po.Ls (sm.map Pk.cn) (cf (qd two one))) (ht : qd two one = br tl) : w = br (sm ++ tl) := by
  have h1 : cf w = cf (br (sm ++ tl)) := by
    rw [h, ht, cf_br2, cf_br2, List.map_append]
    exact (Po.Ls_app _ _ _).symm
  have h2 := br_monic (sm ++ tl)
  rw [← h1] at h2
  have h3 := mon_len (wide_monic h) h2
  exact cf_eq hw (br_pm _) (by rw [br_len]; omega) h1
theorem wide_no {sm w : List Nat} {two one : Nat} (h1 : one < 2305843009213693951) (h2 : two < 2305843009213693951) (h : cf w = Po.mul ((br sm).map Pk.cn) (cf (qd two one))) (hq : ¬ ∃ M : List Nat, M.Nodup ∧ Pm M ∧ qd two one = br M) :
    ¬ ∃ M : List Nat, M.Nodup ∧ Pm M ∧ w = br M := by
  rintro ⟨M, hn, hM, e⟩
  have e2 : Po.mul ((br sm).map Pk.cn) (Pl.lf ((qd two one).map Pk.cn)) = Po.prod (M.map Pk.cn) := by
    rw [← show cf (qd two one) = Pl.lf ((qd two one).map Pk.cn) from Pk.cf_lf _, ← h, e, cf_br2]
  have hmq : Po.Monic 2 (Pl.lf ((qd two one).map Pk.cn)) := by
    have := qd_monic two one
    rw [show cf (qd two one) = Pl.lf ((qd two one).map Pk.cn) from Pk.cf_lf _] at this
    exact this
  obtain ⟨M', hs, e3⟩ := Pl.div_prod (M.map Pk.cn) _ _ 2 hmq e2
  have hn' : M'.Nodup := hs.nodup (Rt.cn_nodup hn hM)
  refine hq ⟨M'.map Fin.val, val_nodup hn', val_pm M', ?_⟩
  have e4 : cf (qd two one) = cf (br (M'.map Fin.val)) := by rw [cf_br2, val_map, ← e3]; exact Pk.cf_lf _
  exact nz_eq (qd_pm h1 h2) (br_pm _) (qd_nz two one) (br_nz _) e4
theorem wide_twice {sm w tl : List Nat} (hs : Pm sm) (ht : Pm tl) (hw : w = br (sm ++ tl)) {x : Nat} (h1 : x ∈ tl) (h2 : x ∈ sm) : ¬ ∃ M : List Nat, M.Nodup ∧ Pm M ∧ w = br M := by
  rintro ⟨M, hn, hM, e⟩
  have h := br_inj (pm_app hs ht) hM (hw.symm.trans e)
  have h3 := h.nodup_iff.mpr hn
  exact (List.nodup_append.mp h3).2.2 x h2 x h1 rfl
theorem lead_br {r x : Nat} (h : c (r : Nat) * c (([x] : List Nat).getD 0 0 : Nat) = 1) : scl r [x] = br [] := by
  show [md ((x : Int) * (r : Int))] = [1]
  congr 1
  refine c_inj (md_lt _) (by decide) ?_
  rw [c_md, c_mul]
  have g : ∀ {R : Type} [Po.Fd R] (a b : R), a * b = 1 → b * a = 1 := fun a b h => by grind
  exact g _ _ h
end K07
namespace K07
open PySem L2 Pg RZ
/-! ### texts of tuples of octets -/
/-- the reading makes, or finds, a tuple of these octets; what was tracked stands -/
def Gd (σ : St) (H : Hp) (te : TE) (l : List Nat) : Prop := ∀ H1, Same H H1 → ∀ Q : VK, (∀ (p : Addr) (H' : Hp), Same H1 H' → H' p = some (.tup (bV l)) → Q (.ref p) H') → te σ H1 Q
def Tus (H : Hp) : List Addr → List (List Nat) → Prop
  | [], [] => True
  | p :: ps, l :: ls => H p = some (.tup (bV l)) ∧ Tus H ps ls
  | _, _ => False
theorem Tus.same {H H' : Hp} (s : Same H H') : ∀ {ps : List Addr} {ls : List (List Nat)}, Tus H ps ls → Tus H' ps ls
  | [], [], _ => True.intro
  | _ :: _, _ :: _, h => ⟨s _ _ h.1, Tus.same s h.2⟩
theorem Tus.keep {r : Addr} {H H' : Hp} (s : Keep r H H') (n : ∀ xs, H r ≠ some (.tup xs)) : ∀ {ps : List Addr} {ls : List (List Nat)}, Tus H ps ls → Tus H' ps ls
  | [], [], _ => True.intro
  | _ :: _, _ :: _, h => ⟨s _ _ (fun e => n _ (e ▸ h.1)) h.1, Tus.keep s n h.2⟩
theorem Tus.get {H : Hp} : ∀ {ps : List Addr} {ls : List (List Nat)} {i : Nat} {p : Addr}, Tus H ps ls → ps[i]? = some p → ∃ l, ls[i]? = some l ∧ H p = some (.tup (bV l))
  | [], [], i, t, _, h => by simp at h
  | t' :: ts, c :: cs, 0, t, h, e => by
    have e' : t' = t := Option.some.inj e
    subst e'
    exact ⟨c, rfl, h.1⟩
  | _ :: ts, _ :: cs, i + 1, t, h, e => Tus.get (i := i) h.2 e
theorem Tus.len {H : Hp} : ∀ {ps : List Addr} {ls : List (List Nat)}, Tus H ps ls → ps.length = ls.length
  | [], [], _ => rfl
  | _ :: ts, _ :: cs, h => by rw [List.length_cons, List.length_cons, Tus.len h.2]
theorem Tus.append {H : Hp} : ∀ {ps : List Addr} {ls : List (List Nat)} {qs : List Addr} {ms : List (List Nat)}, Tus H ps ls → Tus H qs ms → Tus H (ps ++ qs) (ls ++ ms)
  | [], [], _, _, _, h => h
  | _ :: _, _ :: _, _, _, h, g => ⟨h.1, Tus.append h.2 g⟩
def GdL (σ : St) (H : Hp) (ta : TA) (ls : List (List Nat)) : Prop := ∀ H1, Same H H1 → ∀ Q : List V → Hp → Prop, (∀ (ps : List Addr) (H' : Hp), Same H1 H' → Tus H' ps ls → Q (ps.map V.ref) H') → ta σ H1 Q
section
variable {σ : St} {H : Hp} {t1 t2 : TE} {l l1 l2 : List Nat} {K : PySem.W.Frag}
theorem gd_nil : Gd σ H (tTup tNil) [] := fun H1 s Q q => ⟨Nat.zero_le _, fun p hp => q p _ (Same.new hp) upd_same⟩
theorem gd_one {a : Nat} : Gd σ H (tTup (tCons (tC (.int (a : Int))) tNil)) [a] := fun H1 s Q q => ⟨(by show 1 ≤ sizeLine; decide), fun p hp => q p _ (Same.new hp) upd_same⟩
theorem gd_two {a b : Nat} : Gd σ H (tTup (tCons (tC (.int (a : Int))) (tCons (tC (.int (b : Int))) tNil))) [a, b] := fun H1 s Q q => ⟨(by show 2 ≤ sizeLine; decide), fun p hp => q p _ (Same.new hp) upd_same⟩
theorem gd_rep {k : Nat} (h : Gd σ H t1 l) (h1 : l ≠ []) (h2 : 2 ≤ k) (h3 : k ≤ 1000) (h4 : l.length ≤ 1000) : Gd σ H (tOp (rRepT K) t1 (tC (.int (k : Int)))) (List.replicate k l).flatten := fun H1 s Q q => by
  refine h H1 s _ fun p H2 s2 hp => ?_
  refine ⟨p, _, bV l, rfl, rfl, .inl (.inl hp), ?_, by omega, by omega, by rw [bV_len]; exact h4, fun p2 np2 => ?_⟩
  · intro e
    have := congrArg List.length e
    rw [bV_len] at this
    exact h1 (List.eq_nil_of_length_eq_zero this)
  · refine q p2 _ (s2.trans (Same.new np2)) ?_
    rw [upd_same, Int.toNat_natCast]
    have e : (List.replicate k (bV l)).flatten = bV (List.replicate k l).flatten := by
      unfold bV
      rw [List.map_flatten, List.map_replicate]
    rw [e]
theorem gd_cat (h : Gd σ H t1 l1) (g : Gd σ H t2 l2) (h1 : l1 ≠ []) (h2 : l2 ≠ []) (h3 : l1.length + l2.length ≤ 1000) : Gd σ H (tOp (rCatT K) t1 t2) (l1 ++ l2) := fun H1 s Q q => by
  refine h H1 s _ fun p H2 s2 hp => ?_
  refine g H2 (s.trans s2) _ fun p2 H3 s3 hp2 => ?_
  refine ⟨p, p2, bV l1, bV l2, rfl, rfl, .inl (.inl (s3 _ _ hp)), .inl (.inl hp2), ?_, ?_, fun e => ?_, fun _ p3 np3 => ?_⟩
  · intro e
    have := congrArg List.length e
    rw [bV_len] at this
    exact h1 (List.eq_nil_of_length_eq_zero this)
  · rw [bV_len, bV_len]
    exact Nat.le_trans h3 (by decide)
  · have := congrArg List.length e
    rw [bV_len] at this
    exact absurd (List.eq_nil_of_length_eq_zero this) h2
  · refine q p3 _ ((s2.trans s3).trans (Same.new np3)) ?_
    rw [upd_same, bV_append]
theorem gd_catA (h : Gd σ H t1 l1) (g : Gd σ H t2 l2) (h3 : l1.length + l2.length ≤ 1000) : Gd σ H (tOp (rCatA K) t1 t2) (l1 ++ l2) := fun H1 s Q q => by
  refine h H1 s _ fun p H2 s2 hp => ?_
  refine g H2 (s.trans s2) _ fun p2 H3 s3 hp2 => ?_
  have nl : ∀ {m : List Nat}, bV m = [] → m = [] := fun {m} e => by
    have := congrArg List.length e
    rw [bV_len] at this
    exact List.eq_nil_of_length_eq_zero this
  refine ⟨p, p2, bV l1, bV l2, rfl, rfl, .inl (.inl (s3 _ _ hp)), .inl (.inl hp2), ?_, fun e => ?_, fun _ e => ?_, fun _ _ p3 np3 => ?_⟩
  · rw [bV_len, bV_len]
    exact Nat.le_trans h3 (by decide)
  · rw [nl e] at q
    exact q p2 H3 (s2.trans s3) hp2
  · rw [nl e, List.append_nil] at q
    exact q p H3 (s2.trans s3) (s3 _ _ hp)
  · refine q p3 _ ((s2.trans s3).trans (Same.new np3)) ?_
    rw [upd_same, bV_append]
/-- a name that holds one -/
theorem gd_var {i : Nat} {p : Addr} (e : σ[i]? = some (some (.ref p))) (hp : H p = some (.tup (bV l))) : Gd σ H (tVar i) l := fun H1 s Q q => ⟨_, e, q p H1 (fun _ _ h => h) (s _ _ hp)⟩
/-- t[:k] -/
theorem gd_upto {i k : Nat} {p : Addr} (e : σ[i]? = some (some (.ref p))) (hp : H p = some (.tup (bV l))) : Gd σ H (tSl (rSlA K) (tVar i) tNoPart (tPart (tC (.int (k : Int))))) (l.take k) := fun H1 s Q q => by
  have hc : HT.sIx (bV l).length (bV l).length (some (k : Int)) = min k l.length := by
    show (if (k : Int) < 0 then ((k : Int) + ((bV l).length : Int)).toNat else min (k : Int).toNat (bV l).length) = _
    rw [if_neg (by omega), bV_len]
    omega
  have hcut : cutV (bV l) none (some (k : Int)) = bV (l.take k) := by
    unfold cutV
    rw [HT.sIx_none, hc, List.drop_zero, Nat.sub_zero]
    unfold bV
    rw [← List.map_take, ← List.take_eq_take_min]
  refine ⟨_, e, _, rfl, p, _, rfl, .inl (.inl (s _ _ hp)), fun h => ?_, fun _ p2 np2 => ?_⟩
  · have h2 := h.2
    rw [hc, bV_len] at h2
    rw [List.take_of_length_le (by omega)] at q
    exact q p H1 (fun _ _ h => h) (s _ _ hp)
  · refine q p2 _ (Same.new np2) ?_
    rw [upd_same]
    exact congrArg (fun z => some (HO.tup z)) hcut
/-- t[:-1] -/
theorem gd_but {i : Nat} {p : Addr} {x : Nat} (e : σ[i]? = some (some (.ref p))) (hp : H p = some (.tup (bV (l ++ [x])))) : Gd σ H (tSl (rSlA K) (tVar i) tNoPart (tPart (tUn (rU fun i => .int (-i)) (tC (.int 1))))) l := fun H1 s Q q => by
  have hc : HT.sIx (bV (l ++ [x])).length (bV (l ++ [x])).length (some (-1)) = l.length := by
    show (if (-1 : Int) < 0 then ((-1 : Int) + ((bV (l ++ [x])).length : Int)).toNat else min (-1 : Int).toNat (bV (l ++ [x])).length) = _
    rw [if_pos (by decide), bV_len, List.length_append, List.length_singleton]
    omega
  have hcut : cutV (bV (l ++ [x])) none (some (-1)) = bV l := by
    unfold cutV
    rw [HT.sIx_none, hc, List.drop_zero, Nat.sub_zero]
    unfold bV
    rw [← List.map_take, List.take_left' rfl]
  refine ⟨_, e, _, rfl, _, rfl, p, _, rfl, .inl (.inl (s _ _ hp)), fun h => ?_, fun _ p2 np2 => ?_⟩
  · have h2 : HT.sIx (bV (l ++ [x])).length (bV (l ++ [x])).length (some (-1)) = _ := h.2
    rw [hc, bV_len, List.length_append, List.length_singleton] at h2
    omega
  · refine q p2 _ (Same.new np2) ?_
    rw [upd_same]
    exact congrArg (fun z => some (HO.tup z)) hcut
theorem gdl_nil : GdL σ H tNil [] := fun H1 s Q q => q [] H1 (fun _ _ h => h) True.intro
theorem gdl_cons {ta : TA} {ls : List (List Nat)} (h : Gd σ H t1 l) (g : GdL σ H ta ls) : GdL σ H (tCons t1 ta) (l :: ls) := fun H1 s Q q => by
  refine h H1 s _ fun p H2 s2 hp => ?_
  refine g H2 (s.trans s2) _ fun ps H3 s3 hps => ?_
  exact q (p :: ps) H3 (s2.trans s3) ⟨s3 _ _ hp, hps⟩
theorem tCons_of {t : TE} {ta : TA} {Q : List V → Hp → Prop} (h : t σ H fun v H1 => ta σ H1 fun vs H2 => Q (v :: vs) H2) : tCons t ta σ H Q := h
theorem tOp_of {r : R2} {ta tb : TE} {Q : VK} (h : ta σ H fun x H1 => tb σ H1 fun y H2 => r x y H2 Q) : tOp r ta tb σ H Q := h
theorem lst_of {ta : TA} {ls : List (List Nat)} (h : GdL σ H ta ls) (hl : ls.length ≤ 1000) {H1 : Hp} (s : Same H H1) {Q : VK} (q : ∀ (ps : List Addr) (b : Addr) (H' : Hp), Same H1 H' → H1 b = none → Tus H' ps ls → H' b = some (.lst (ps.map V.ref)) → Q (.ref b) H') : tLst ta σ H1 Q := by
  refine h H1 s _ fun ps H2 s2 hps => ⟨?_, fun b nb => ?_⟩
  · rw [List.length_map, Tus.len hps]
    exact Nat.le_trans hl (by decide)
  · have s3 : Same H2 (upd H2 b (.lst (ps.map V.ref))) := Same.new nb
    exact q ps b _ (s2.trans s3) (s2.free nb) (Tus.same s3 hps) upd_same
end
/-! ### steps of readings -/
theorem set_nx {i : Nat} {v : V} {σ : St} {H : Hp} {t : TS} {D D' : Ends} (h : t D (σ.set i (some v)) H) : gName i v σ H { nx := t D, rt := D'.rt, bk := D'.bk, ct := D'.ct : Ends }.nx := h
theorem seq_asg {te : TE} {g : TG} {u : TS} {D : Ends} {σ : St} {H : Hp} (R : V → Hp → Prop) (h : ∀ Q' : VK, (∀ v H', R v H' → Q' v H') → te σ H Q') (k : ∀ v H', R v H' → g v σ H' fun σ' H'' => u D σ' H'') : tSeq (tAsg te g) u D σ H := h _ k
theorem seq_par {i j : Nat} {ta : TA} {u : TS} {D : Ends} {σ : St} {H : Hp} (R : V → V → Hp → Prop) (h : ∀ Q' : List V → Hp → Prop, (∀ v w H', R v w H' → Q' [v, w] H') → ta σ H Q') (k : ∀ v w H', R v w H' → u D ((σ.set i (some v)).set j (some w)) H') : tSeq (tPar i j ta) u D σ H := h _ fun v w H' r => ⟨v, w, rfl, k v w H' r⟩
def Ck (K : PySem.W.Frag) (n : Nat) (G : Bool → Hp → Prop) (v w : V) (H : Hp) : Prop := spAlike K n [v, w] H (fun x H3 => ∃ k, x = .bl k ∧ G k H3) (fun _ _ _ => False)
theorem ck_same {K : PySem.W.Frag} {n : Nat} {G : Bool → Hp → Prop} {v w : V} {H : Hp} {d : PyData} (h1 : Dp K H v d) (h2 : Dp K H w d) (p1 : Pl 20 d) (p2 : Pl n d) (g : ∀ H3, Same H H3 → G true H3) : Ck K n G v w H := by
  refine ⟨v, w, d, d, rfl, h1, h2, p1, p2, fun b H' hb s => ⟨b, rfl, ?_⟩⟩
  have hbt : b = true := hb.mpr rfl
  subst hbt
  exact g H' s
theorem chk_of {K : PySem.W.Frag} {n : Nat} {te1 te2 : TE} {no u : TS} {D : Ends} {σ : St} {H : Hp} (h : te1 σ H fun v H1 => te2 σ H1 fun w H2 => Ck K n (fun k H3 => if (!k) = true then no { D with nx := u D } σ H3 else u D σ H3) v w H2) :
    tSeq (tIfS (tNot (tB (tCall (spAlike K n) [] E0 (tCons te1 (tCons te2 tNil))))) no tNext) u D σ H := h
theorem chk_end {K : PySem.W.Frag} {n : Nat} {te1 te2 : TE} {no : TS} {D : Ends} {σ : St} {H : Hp} (h : te1 σ H fun v H1 => te2 σ H1 fun w H2 => Ck K n (fun k H3 => if (!k) = true then no D σ H3 else D.nx σ H3) v w H2) :
    tIfS (tNot (tB (tCall (spAlike K n) [] E0 (tCons te1 (tCons te2 tNil))))) no tNext D σ H := h
theorem tCallS_of {sp : Sp} {E : St → XK} {t : TA} {σ : St} {H : Hp} {Q : VK} (h : t σ H fun vs H1 => sp vs H1 Q (E σ)) : tCallS sp E t σ H Q := h
theorem tVar_of {i : Nat} {v : V} {σ : St} {H : Hp} {Q : VK} (e : σ[i]? = some (some v)) (h : Q v H) : tVar i σ H Q := ⟨v, e, h⟩
def ForR (J : It) (g : TG) (tb : TS) (D : Ends) (σ : St) (H1 : Hp) : Prop := ∃ W : Nat → Nat → St → Hp → Prop, (∃ m, W 0 m σ H1) ∧ ∀ i m σ H, W i m σ H →
  (J.stop i H ∧ D.nx σ H) ∨ (J.go i H ∧ ∃ N : St → Hp → Prop, (∀ σ' H', N σ' H' → ∃ m', m' < m ∧ W (i + 1) m' σ' H') ∧ ∀ x H', J.yld i H x H' → g x σ H' fun σ2 H2 => tb { D with nx := N, ct := N, bk := D.nx } σ2 H2)
theorem for_of {K : PySem.W.Frag} {te : TE} {g : TG} {tb u : TS} {D : Ends} {σ : St} {H : Hp} {i : Nat} {v : V} (h : te (σ.set i (some v)) H fun x H1 => ∃ a, x = .ref a ∧ (∃ xs, SqL K H1 a xs) ∧ ForR (Itl K a) g tb { D with nx := u D } (σ.set i (some v)) H1) :
    gName i v σ H fun σ' H'' => tSeq (tFor (iList K te) g tb) u D σ' H'' := h
theorem at_last (l : List Nat) (x : Nat) : atI (bV (l ++ [x])) (-1) = some (.int (x : Int)) := by
  have e : ixN (l ++ [x]).length (-1) = some l.length := by
    unfold ixN
    rw [List.length_append, List.length_singleton, if_neg (by omega), if_pos (by omega)]
    congr 1
    omega
  unfold atI
  rw [bV_len, e]
  show (bV (l ++ [x]))[l.length]? = _
  refine bV_at ?_
  rw [List.getElem?_append_right (Nat.le_refl _), Nat.sub_self]
  rfl
theorem tCall_of {sp : Sp} {dvs : List V} {E : XK} {t : TA} {σ : St} {H : Hp} {Q : VK} (h : t σ H fun vs H1 => sp (vs ++ dvs) H1 Q E) : tCall sp dvs E t σ H Q := h
theorem gd_vv {σ : St} {H : Hp} {i j a b : Nat} {x y : Int} (e1 : σ[i]? = some (some (.int x))) (e2 : σ[j]? = some (some (.int y))) (h1 : x = (a : Int)) (h2 : y = (b : Int)) : Gd σ H (tTup (tCons (tVar i) (tCons (tVar j) tNil))) [a, b] := fun H1 s Q q => ⟨_, e1, _, e2, (by show 2 ≤ sizeLine; decide), fun p hp => q p _ (Same.new hp) (by rw [upd_same, h1, h2]; rfl)⟩
/-! ### the law -/
abbrev slaw : Stmt := top 39
abbrev nlaw : List Str := ["script", "row", "pool", "some", "lead", "poly", "one", "two", "gap", "square", "told", "many", "wide", "base", "k", "j", "clear", "number", "x"]
abbrev plaw : List Str := ["script"]
theorem sclaw : FnScope nlaw plaw (defScope slaw) := ⟨rfl, rfl, rfl, by decide +kernel, rfl, by decide +kernel, by decide +kernel⟩
def spLaw (K : PySem.W.Frag) : Sp := fun vs H Q _ => ∃ (a : Addr) (ns : List Int), vs = [.ref a] ∧ SqL K H a (ns.map V.int) ∧ ns.length ≤ 63 ∧ ∀ H', Q (.bl true) H'
theorem plT {l : List Nat} (hl : l.length ≤ 100000) (n : Nat) : Pl (n + 1) (.tuple (dI l)) := ⟨by unfold dI; rw [List.length_map]; exact hl, fun y hy => by
  obtain ⟨w, _, rfl⟩ := List.mem_map.mp hy
  cases n <;> exact True.intro⟩
theorem dI_eqvL (l m : List Nat) : PyData.eqv (.list (dI l)) (.list (dI m)) = decide (l = m) := by
  simp only [PyData.eqv]
  exact dI_eqvAll l m
theorem dI_shapedL {l : List Nat} (h : l.length ≤ 100000) : SeqAt.shaped (.list (dI l)) = true := (dI_plL h).shaped (by decide)
theorem inV_bV (n : Nat) : ∀ l : List Nat, inV (.int (n : Int)) (bV l) = decide (n ∈ l)
  | [] => rfl
  | a :: l => by
    show (eqV (.int (a : Int)) (.int (n : Int)) || inV (.int (n : Int)) (bV l)) = _
    rw [inV_bV n l]
    have e : eqV (.int (a : Int)) (.int (n : Int)) = decide (n = a) := by
      show decide ((a : Int) = (n : Int)) = _
      rw [decide_eq_decide]
      omega
    rw [e, Bool.eq_iff_iff]
    simp
theorem flat_bV (l : List Nat) : (bV l).all flatV = true := by
  rw [List.all_eq_true]
  intro v hv
  obtain ⟨n, _, rfl⟩ := List.mem_map.mp hv
  rfl
theorem seq_same {t2 tr : TS} {D : Ends} {σ : L2.St} {H : Hp} (hr : ∀ H', Same H H' → tr D σ H') (h : (∀ H', Same H H' → tr D σ H') → tSeq t2 tr D σ H) : tSeq t2 tr D σ H := h hr
theorem seq_cut3 {t1 t2 t3 tr : TS} {D : Ends} {σ : L2.St} {H : Hp} (i : Nat) (J : V → Hp → Prop) (hr : ∀ v H', J v H' → tr D (σ.set i (some v)) H') (h : (∀ v H', J v H' → tr D (σ.set i (some v)) H') → tSeq t1 (tSeq t2 (tSeq t3 tr)) D σ H) : tSeq t1 (tSeq t2 (tSeq t3 tr)) D σ H := h hr
/-- what roots tells of the quadratic polynomial -/
def Told (H' : Hp) (one two : Nat) (td : V) : Prop :=
  (td = .non ∧ ¬ ∃ M : List Nat, M.Nodup ∧ Pm M ∧ qd two one = br M) ∨ ∃ (pt : Addr) (tl : List Nat), td = .ref pt ∧ H' pt = some (.tup (bV tl)) ∧ tl.Nodup ∧ Pm tl ∧ qd two one = br tl
section
variable {P : Program} {w : World} {K : PySem.W.Frag} {mg : Str → Option Value} {base : Heap}
theorem ok_law {f fPr fT fPk fOo fFr fA fRt fAt fPw : Addr} {fd fdPr fdT fdPk fdOo fdFr fdA fdRt fdAt fdPw : FuncData} (D : Dfn K mg "law" slaw plaw f fd) (B : Bi mg) (T : TP mg) (Tse : mg "set" = none)
    (DPr : Dfn K mg "_law_prime" s_law_prime p_law_prime fPr fdPr) (GPr : FnOk P w K mg base CX0 1 fPr fdPr p_law_prime spPr)
    (DT : Dfn K mg "_law_taken" s_law_taken p_law_taken fT fdT) (GT : FnOk P w K mg base CX0 1 fT fdT p_law_taken (spTaken K))
    (DPk : Dfn K mg "_law_pick" s_law_pick p_law_pick fPk fdPk) (GPk : FnOk P w K mg base CX0 2 fPk fdPk p_law_pick (spPick K))
    (DOo : Dfn K mg "_law_order_of" s_law_order_of p_law_order_of fOo fdOo) (GOo : FnOk P w K mg base CX0 3 fOo fdOo p_law_order_of (spOof K))
    (DFr : Dfn K mg "_law_from_roots" s_law_from_roots p_law_from_roots fFr fdFr) (GFr : FnOk P w K mg base CX0 2 fFr fdFr p_law_from_roots (spFr K))
    (DA : Dfn K mg "_law_alike" s_law_alike p_law_alike fA fdA) (GA : FnOk P w K mg base CX0 4 fA fdA p_law_alike (spAlike K 2))
    (DRt : Dfn K mg "roots" sroots proots fRt fdRt) (GRt : FnOk P w K mg base CX0 6 fRt fdRt proots (spRts K))
    (DAt : Dfn K mg "_law_at" s_law_at p_law_at fAt fdAt) (GAt : FnOk P w K mg base CX0 2 fAt fdAt p_law_at (spAt K))
    (DPw : Dfn K mg "_law_power" s_law_power p_law_power fPw fdPw) (GPw : FnOk P w K mg base CX0 2 fPw fdPw p_law_power spPw) :
    FnOk P w K mg base CX0 7 f fd plaw (spLaw K) := by
  have nd := sclaw.nd
  refine D.F.ok sclaw (fun vs H Q E h => ?_) (fun cdv A outer s H vs Q E hr h => ?_)
  · obtain ⟨a, ns, rfl, _⟩ := h
    rfl
  · obtain ⟨sc, ns, rfl, hS, hlen, q⟩ := h
    have hr1 : Room 1 _ := hr.mono (by decide)
    have hr2 : Room 2 _ := hr.mono (by decide)
    have hr3 : Room 3 _ := hr.mono (by decide)
    have hr4 : Room 4 _ := hr.mono (by decide)
    refine ⟨_, pss_cons (ps_set (i := 1) nd rfl (.inr rfl) (pe_lst (pa_cons (pv 0) (pa_cons pe_int (pa_cons pe_int (pa_cons pe_int pa_nil))))))
      (pss_cons (ps_set (i := 2) nd rfl (.inr rfl) (pe_op op_cat (pe_lst (pa_cons (pe_call GT hr1 (by rfl) DT.g DT.F.kp DT.b .nil pass0 (pa_cons (pv 1) (pa_cons pe_int pa_nil))) (pa_cons pe_int (pa_cons pe_int pa_nil))))
          (pe_lc (own := [("k", 14)]) (g := gName 14) (tt := tYes) rfl nd (pi_range1 (by rfl) B.range (pa_cons pe_int pa_nil)) (blkOk_by (N := nlaw) (sc := defScope slaw) (by decide +kernel)) (fun _ _ _ _ _ => pg_name (i := 14) nd rfl (.inl rfl)) (fun _ _ _ _ _ => pts_nil)
            (fun _ _ _ _ _ => pe_call GT hr1 (by rfl) DT.g DT.F.kp DT.b .nil pass0 (pa_cons (pv 1) (pa_cons (pe_call0 GPr hr1 (by rfl) DPr.g DPr.F.kp DPr.b .nil pass0) pa_nil))))))
      (pss_cons (ps_set (i := 2) nd rfl (.inr rfl) (pe_op op_cat (pv 2) (pe_lst (pa_cons (pe_op op_sub (pe_op op_sub (pe_call0 GPr hr1 (by rfl) DPr.g DPr.F.kp DPr.b .nil pass0) pe_int) (pe_call GT hr1 (by rfl) DT.g DT.F.kp DT.b .nil pass0 (pa_cons (pv 1) (pa_cons pe_int pa_nil)))) pa_nil))))
      (pss_cons (ps_set (i := 3) nd rfl (.inr rfl) (pe_callB (cr_sortedSet rfl) (by rfl) T.so (by decide +kernel) (pa_cons (pe_callTy (SLs.cr_setL rfl) (by rfl) Tse (by decide +kernel) (pa_cons
          (pe_lc (own := [("k", 14)]) (g := gName 14) (tt := tYes) rfl nd (pi_range1 (by rfl) B.range (pa_cons (pe_call GT hr1 (by rfl) DT.g DT.F.kp DT.b .nil pass0 (pa_cons (pv 1) (pa_cons pe_int pa_nil))) pa_nil)) (blkOk_by (N := nlaw) (sc := defScope slaw) (by decide +kernel)) (fun _ _ _ _ _ => pg_name (i := 14) nd rfl (.inl rfl)) (fun _ _ _ _ _ => pts_nil)
            (fun _ _ _ _ _ => pe_call GPk hr2 (by rfl) DPk.g DPk.F.kp DPk.b .nil pass0 (pa_cons (pv 1) (pa_cons (pv 2) pa_nil)))) pa_nil)) pa_nil)))
      (pss_cons (ps_set (i := 4) nd rfl (.inr rfl) (pe_op op_add pe_int (pe_call GT hr1 (by rfl) DT.g DT.F.kp DT.b .nil pass0 (pa_cons (pv 1) (pa_cons (pe_op op_sub (pe_call0 GPr hr1 (by rfl) DPr.g DPr.F.kp DPr.b .nil pass0) pe_int) pa_nil)))))
      (pss_cons (ps_set (i := 5) nd rfl (.inl rfl) (pe_callTy call_tuple_of (by rfl) B.tuple (by decide +kernel) (pa_cons
          (pe_lc (own := [("number", 17)]) (g := gName 17) (tt := tYes) rfl nd (pi_tup (pe_call GFr hr2 (by rfl) DFr.g DFr.F.kp DFr.b .nil pass0 (pa_cons (pe_call GOo hr3 (by rfl) DOo.g DOo.F.kp DOo.b .nil pass0 (pa_cons (pv 1) (pa_cons (pv 3) pa_nil))) pa_nil))) (blkOk_by (N := nlaw) (sc := defScope slaw) (by decide +kernel)) (fun _ _ _ _ _ => pg_name (i := 17) nd rfl (.inl rfl)) (fun _ _ _ _ _ => pts_nil)
            (fun _ _ _ _ _ => pe_op op_mod (pe_callTy call_int1 (by rfl) B.int (by decide +kernel) (pa_cons (pe_op op_mulW (pv 17) (pv 4)) pa_nil)) (pe_call0 GPr hr1 (by rfl) DPr.g DPr.F.kp DPr.b .nil pass0))) pa_nil)))
      (pss_cons (ps_if (pt_not (pt_val (pe_call GA hr4 (by rfl) DA.g DA.F.kp DA.b .nil pass0 (pa_cons (pe_call GRt hr (by rfl) DRt.g DRt.F.kp DRt.b .nil pass0 (pa_cons (pv 5) pa_nil)) (pa_cons (pe_callTy call_tuple_of (by rfl) B.tuple (by decide +kernel) (pa_cons (pv 3) pa_nil)) pa_nil))))) (pss_one (ps_ret pe_bl)) pss_nil)
      (pss_cons (ps_if (PW.pt (pw_and (pt_cmpR (op_neD hr.units) (pv 3) (pe_lst pa_nil) (nomark _)) (pw_and1 (pt_cmpR op_notN (pe_call GRt hr (by rfl) DRt.g DRt.F.kp DRt.b .nil pass0 (pa_cons (pe_call GFr hr2 (by rfl) DFr.g DFr.F.kp DFr.b .nil pass0 (pa_cons (pe_op op_cat (pv 3) (pe_slice sl_list (pv 3) po_none (po_some pe_int))) pa_nil)) pa_nil)) pe_non (nomark _))))) (pss_one (ps_ret pe_bl)) pss_nil)
      (pss_cons (ps_asg (g := gTup K 2 (gCons (gName 6) (gCons (gName 7) gNil))) (pe_tup (pa_cons (pe_call GT hr1 (by rfl) DT.g DT.F.kp DT.b .nil pass0 (pa_cons (pv 1) (pa_cons (pe_call0 GPr hr1 (by rfl) DPr.g DPr.F.kp DPr.b .nil pass0) pa_nil))) (pa_cons (pe_call GT hr1 (by rfl) DT.g DT.F.kp DT.b .nil pass0 (pa_cons (pv 1) (pa_cons (pe_call0 GPr hr1 (by rfl) DPr.g DPr.F.kp DPr.b .nil pass0) pa_nil))) pa_nil))) (by exact pg_tup rfl (pgs_cons (pg_name (i := 6) nd rfl (.inr rfl)) (pgs_cons (pg_name (i := 7) nd rfl (.inr rfl)) pgs_nil))))
      (pss_cons (ps_set (i := 8) nd rfl (.inl rfl) (pe_op op_mod (pe_callTy call_int1 (by rfl) B.int (by decide +kernel) (pa_cons (pe_op op_sub (pe_op op_mulW (pv 6) (pv 6)) (pe_op op_mulW pe_int (pv 7))) pa_nil)) (pe_call0 GPr hr1 (by rfl) DPr.g DPr.F.kp DPr.b .nil pass0)))
      (pss_cons (ps_set (i := 9) nd rfl (.inl rfl) (pe_call GPw hr2 (by rfl) DPw.g DPw.F.kp DPw.b .nil pass0 (pa_cons (pv 8) (pa_cons (pe_op op_fdivW (pe_op op_sub (pe_call0 GPr hr1 (by rfl) DPr.g DPr.F.kp DPr.b .nil pass0) pe_int) pe_int) pa_nil))))
      (pss_cons (ps_set (i := 10) nd rfl (.inl rfl) (pe_call GRt hr (by rfl) DRt.g DRt.F.kp DRt.b .nil pass0 (pa_cons (pe_tup (pa_cons (pv 7) (pa_cons (pv 6) (pa_cons pe_int pa_nil)))) pa_nil)))
      (pss_cons (ps_if (pt_cmpR op_ne (pe_cmpR op_isN (pv 10) pe_non (nomark _)) (pe_cmpR op_ne (pv 9) pe_int (nomark _)) (nomark _)) (pss_one (ps_ret pe_bl)) pss_nil)
      (pss_cons (ps_if (PW.pt (pw_and (pt_cmpR op_notN (pv 10) pe_non (nomark _)) (pw_and1 (PW.pt (pw_or (pt_cmpR op_ne (pe_callB call_len_seq (by rfl) B.len PySem.boot_len (pa_cons (pv 10) pa_nil)) pe_int (nomark _)) (pw_or1 (pt_cmpR (op_neD hr.units)
          (pe_lc (own := [("x", 18)]) (g := gName 18) rfl nd (pi_tup (pv 10)) (blkOk_by (N := nlaw) (sc := defScope slaw) (by decide +kernel)) (fun _ _ _ _ _ => pg_name (i := 18) nd rfl (.inl rfl))
            (fun _ _ _ _ _ => pts_one (pt_cmpR op_ne (pe_call GAt hr2 (by rfl) DAt.g DAt.F.kp DAt.b .nil pass0 (pa_cons (pe_tup (pa_cons (pv 7) (pa_cons (pv 6) (pa_cons pe_int pa_nil)))) (pa_cons (pv 18) pa_nil))) pe_int (nomark _)))
            (fun _ _ _ _ _ => pv 18)) (pe_lst pa_nil) (nomark _)))))))) (pss_one (ps_ret pe_bl)) pss_nil)
      (pss_cons (ps_set (i := 11) nd rfl (.inl rfl) (pe_lst (pa_cons (pe_op op_mod (pe_callTy call_int1 (by rfl) B.int (by decide +kernel) (pa_cons (pv 7) pa_nil)) (pe_call0 GPr hr1 (by rfl) DPr.g DPr.F.kp DPr.b .nil pass0)) (pa_cons (pv 6) (pa_cons pe_int pa_nil)))))
      (pss_cons (ps_set (i := 12) nd rfl (.inl rfl) (pe_op op_rep (pe_lst (pa_cons pe_int pa_nil)) (pe_op op_add (pe_callB call_len_seq (by rfl) B.len PySem.boot_len (pa_cons (pv 3) pa_nil)) pe_int)))
      (pss_cons (ps_set (i := 13) nd rfl (.inl rfl) (pe_call GFr hr2 (by rfl) DFr.g DFr.F.kp DFr.b .nil pass0 (pa_cons (pv 3) pa_nil)))
      (pss_cons (ps_for PassesOwn.never rfl (pi_range1 (by rfl) B.range (pa_cons (pe_callB call_len_seq (by rfl) B.len PySem.boot_len (pa_cons (pv 13) pa_nil)) pa_nil)) (pg_name (i := 14) nd rfl (.inl rfl))
        (pss_one (ps_for PassesOwn.never rfl (pi_range1 (by rfl) B.range (pa_cons pe_int pa_nil)) (pg_name (i := 15) nd rfl (.inl rfl))
          (pss_one (ps_asg (pe_op op_mod (pe_callTy call_int1 (by rfl) B.int (by decide +kernel) (pa_cons (pe_op op_add (pe_ix ix_list (pv 12) (pe_op op_add (pv 14) (pv 15)) (fun _ _ => rfl)) (pe_op op_mulW (pe_ix ix_tup (pv 13) (pv 14) (fun _ _ => rfl)) (pe_ix ix_list (pv 11) (pv 15) (fun _ _ => rfl)))) pa_nil)) (pe_call0 GPr hr1 (by rfl) DPr.g DPr.F.kp DPr.b .nil pass0)) (pg_sub (pv 12) (pe_op op_add (pv 14) (pv 15)) set_list))))))
      (pss_cons (ps_set (i := 16) nd rfl (.inl rfl) (pe_and (pe_cmpR op_notN (pv 10) pe_non (nomark _)) (pe_one (pe_cmpR (op_eqD hr.units)
          (pe_lc (own := [("x", 18)]) (g := gName 18) rfl nd (pi_tup (pv 10)) (blkOk_by (N := nlaw) (sc := defScope slaw) (by decide +kernel)) (fun _ _ _ _ _ => pg_name (i := 18) nd rfl (.inl rfl))
            (fun _ _ _ _ _ => pts_one (pt_cmpR (r := rIn K false) op_in_seq (pv 18) (pv 3) (by rfl)))
            (fun _ _ _ _ _ => pv 18)) (pe_lst pa_nil) (nomark _)))))
      (pss_one (ps_ret (pe_and (pe_call GA hr4 (by rfl) DA.g DA.F.kp DA.b .nil pass0 (pa_cons (pe_call GRt hr (by rfl) DRt.g DRt.F.kp DRt.b .nil pass0 (pa_cons (pe_callTy call_tuple_of (by rfl) B.tuple (by decide +kernel) (pa_cons (pv 12) pa_nil)) pa_nil))
          (pa_cons (pe_ifExp (pt_val (pv 16)) (pe_callTy call_tuple_of (by rfl) B.tuple (by decide +kernel) (pa_cons (pe_callB cr_sorted (by rfl) T.so (by decide +kernel) (pa_cons (pe_op op_cat (pv 3) (pe_callTy call_list_of (by rfl) B.list (by decide +kernel) (pa_cons (pv 10) pa_nil))) pa_nil)) pa_nil)) pe_non) pa_nil)))
        (pe_one (pe_cmpR (op_eqD hr.units) (pe_call GRt hr (by rfl) DRt.g DRt.F.kp DRt.b .nil pass0 (pa_cons (pe_tup (pa_cons (pv 4) pa_nil)) pa_nil)) (pe_tup pa_nil) (nomark _)))))))))))))))))))))))), ?_⟩
    -- row
    refine ⟨_, rfl, (by show 4 ≤ sizeLine; decide), fun r hr0 => ?_⟩
    have R0 : RowI K (upd H r (.lst [.ref sc, .int 0, .int 10707, .int 0])) r sc ns := RowI.start hS hr0 (by decide) (by decide)
    generalize upd H r (.lst [.ref sc, .int 0, .int 10707, .int 0]) = H0 at R0
    -- pool
    refine ⟨_, rfl, r, sc, ns, 9, rfl, R0, by decide, by decide, fun v H1 v0 v1 R1 k1 => ?_⟩
    obtain ⟨m0, rfl⟩ := Int.eq_ofNat_of_zero_le v0
    refine ⟨(by show 3 ≤ sizeLine; decide), fun z nz => ?_⟩
    have R2 := R1.same (Same.new (o := .lst [.int (m0 : Int), .int 8, .int 0]) nz)
    have hz2 : (upd H1 z (.lst [.int (m0 : Int), .int 8, .int 0])) z = some (.lst (bV [m0, 8, 0])) := upd_same
    have zr : z ≠ r := R1.new nz
    generalize upd H1 z (.lst [.int (m0 : Int), .int 8, .int 0]) = H2 at R2 hz2
    refine ⟨4, rfl, by decide, by decide, fun Dl hD => ?_⟩
    have nDr : Dl ≠ r := R2.new hD
    refine lc_range (lo := 0) (n := 4) (fun i X => ∃ l : List Nat, l.length = i ∧ Pm l ∧ X Dl = some (.lst (bV l)) ∧ RowI K X r sc ns ∧ Keep r H2 X) ⟨[], rfl, (fun o h => by cases h), upd_same, R2.same (Same.new hD), Keep.new hD⟩ ?_ ?_
    · rintro i X5 hi ⟨l, hl, hb, hd, Ra, ka⟩
      refine ⟨rfl, ?_⟩
      refine yes ?_
      refine ⟨_, rfl, rfl, r, sc, ns, _, rfl, Ra, by decide, by decide, fun v X6 v0 v1 Rb kb => ?_⟩
      obtain ⟨n, rfl⟩ := Int.eq_ofNat_of_zero_le v0
      have hd3 := kb _ _ nDr hd
      have kk : Keep r H2 (L2.upd X6 Dl (.lst (bV l ++ [.int (n : Int)]))) := fun b o n e => by
        rw [upd_ne (ne_of_none e hD)]
        exact (ka.trans kb) b o n e
      refine ⟨_, hd3, ?_, l ++ [n], ?_, Pm.snoc (by omega) hb, ?_, Rb.ups R2 nDr kk, kk⟩
      · rw [bV_len, sizeLine_eq]
        omega
      · rw [List.length_append, hl]
        rfl
      · rw [upd_same, bV_app]
    rintro H3 ⟨l4, hl4, hb4, hd4, R3, k3⟩
    have hz3 := k3 _ _ zr hz2
    refine ⟨z, Dl, _, _, rfl, rfl, hz3, hd4, ?_, fun pl npl => ?_⟩
    · rw [bV_len, bV_len, sizeLine_eq]
      show 3 + l4.length ≤ _
      omega
    have R4 := R3.same (Same.new (o := .lst (bV [m0, 8, 0] ++ bV l4)) npl)
    have hpl4 : (upd H3 pl (.lst (bV [m0, 8, 0] ++ bV l4))) pl = some (.lst (bV ([m0, 8, 0] ++ l4))) := by rw [upd_same, bV_append]
    have plr : pl ≠ r := R3.new npl
    have hPm : Pm ([m0, 8, 0] ++ l4) := Pm.cons (by omega) (Pm.cons (by omega) (Pm.cons (by omega) hb4))
    have hPl : ([m0, 8, 0] ++ l4).length = 7 := by
      show l4.length + 1 + 1 + 1 = 7
      omega
    generalize upd H3 pl (.lst (bV [m0, 8, 0] ++ bV l4)) = H4 at R4 hpl4
    generalize [m0, 8, 0] ++ l4 = PL0 at hpl4 hPm hPl
    -- pool and one more
    refine ⟨_, rfl, rfl, _, _, rfl, rfl, _, rfl, r, sc, ns, 3, rfl, R4, by decide, by decide, fun v H5 v0 v1 R5 k5 => ?_⟩
    obtain ⟨m1, rfl⟩ := Int.eq_ofNat_of_zero_le v0
    refine ⟨_, _, rfl, rfl, (by show 1 ≤ sizeLine; decide), fun z2 nz2 => ?_⟩
    have R6 := R5.same (Same.new (o := .lst [.int (2305843009213693951 - 1 - (m1 : Int))]) nz2)
    have hz6 : (upd H5 z2 (.lst [.int (2305843009213693951 - 1 - (m1 : Int))])) z2 = some (.lst (bV [2305843009213693950 - m1])) := by
      rw [upd_same, show (2305843009213693951 : Int) - 1 - (m1 : Int) = ((2305843009213693950 - m1 : Nat) : Int) by omega]
      rfl
    have hpl6 := (Same.new (o := .lst [.int (2305843009213693951 - 1 - (m1 : Int))]) nz2) _ _ (k5 _ _ plr hpl4)
    generalize upd H5 z2 (.lst [.int (2305843009213693951 - 1 - (m1 : Int))]) = H6 at R6 hz6 hpl6
    refine ⟨pl, z2, _, _, rfl, rfl, hpl6, hz6, ?_, fun p2 np2 => ?_⟩
    · rw [bV_len, bV_len, sizeLine_eq, hPl]
      show 7 + 1 ≤ _
      omega
    have R7 := R6.same (Same.new (o := .lst (bV PL0 ++ bV [2305843009213693950 - m1])) np2)
    have hp7 : (upd H6 p2 (.lst (bV PL0 ++ bV [2305843009213693950 - m1]))) p2 = some (.lst (bV (PL0 ++ [2305843009213693950 - m1]))) := by rw [upd_same, bV_append]
    have p2r : p2 ≠ r := R6.new np2
    have hPm2 : Pm (PL0 ++ [2305843009213693950 - m1]) := Pm.snoc (by omega) hPm
    have hPl2 : (PL0 ++ [2305843009213693950 - m1]).length = 8 := by
      rw [List.length_append, hPl]
      rfl
    generalize upd H6 p2 (.lst (bV PL0 ++ bV [2305843009213693950 - m1])) = H7 at R7 hp7
    generalize PL0 ++ [2305843009213693950 - m1] = PL at hp7 hPm2 hPl2
    -- some
    refine ⟨_, rfl, r, sc, ns, 7, rfl, R7, by decide, by decide, fun v H8 v0 v1 R8 k8 => ?_⟩
    obtain ⟨m2, rfl⟩ := Int.eq_ofNat_of_zero_le v0
    have hp8 := k8 _ _ p2r hp7
    refine ⟨m2, rfl, by omega, by omega, fun D1 hD1 => ?_⟩
    have D1r := R8.new hD1
    refine lc_range (lo := 0) (n := m2) (fun i H5 => ∃ l : List Nat, l.length = i ∧ Pm l ∧ H5 D1 = some (.lst (bV l)) ∧ RowI K H5 r sc ns ∧ Keep r H8 H5) ⟨[], rfl, (fun o h => by cases h), upd_same, R8.same (Same.new hD1), Keep.new hD1⟩ ?_ ?_
    · rintro i X5 hi ⟨l, hl, hb, hd, Ra, ka⟩
      refine ⟨rfl, ?_⟩
      refine yes ?_
      refine ⟨_, rfl, _, rfl, r, sc, ns, p2, bV PL, rfl, Ra, SqL.of (ka _ _ p2r hp8), p2r, by rw [bV_len]; omega, by rw [bV_len]; omega, fun v X6 hv Rb kb => ?_⟩
      obtain ⟨n, hn, rfl⟩ := List.mem_map.mp hv
      have hnP := hPm2 n hn
      have hd3 := kb _ _ D1r hd
      have kk : Keep r H8 (L2.upd X6 D1 (.lst (bV l ++ [.int (n : Int)]))) := fun b o n e => by
        rw [upd_ne (ne_of_none e hD1)]
        exact (ka.trans kb) b o n e
      refine ⟨_, hd3, ?_, l ++ [n], ?_, Pm.snoc hnP hb, ?_, Rb.ups R8 D1r kk, kk⟩
      · rw [bV_len, sizeLine_eq]
        omega
      · rw [List.length_append, hl]
        rfl
      · rw [upd_same, bV_app]
    rintro H9 ⟨pk, hlk, hbk, hdk, R9, k9⟩
    refine ⟨D1, pk.map fun n : Nat => (n : Int), rfl, SqL.of (by rw [bV_int]; exact hdk), by rw [List.length_map]; omega, fun se mS hmS nse => ?_⟩
    rw [List.length_map] at hmS
    refine ⟨se, _, mS, rfl, upd_same, by omega, fun ys so pw my ly nso => ?_⟩
    have s10 : Same H9 (upd (upd H9 se _) so (.lst (ys.map V.int))) := (Same.new nse).trans (Same.new nso)
    have hyn : ∀ y, y ∈ ys → ∃ n : Nat, n ∈ pk ∧ y = (n : Int) := fun y hy => by
      have h1 := of_decide_eq_true ((my y).mp hy)
      obtain ⟨n, hn, rfl⟩ := List.mem_map.mp h1
      exact ⟨n, hn, rfl⟩
    have hsv : ys.map V.int = bV (ys.map Int.toNat) := by
      unfold bV
      rw [List.map_map]
      refine List.map_congr_left fun y hy => ?_
      obtain ⟨n, _, rfl⟩ := hyn y hy
      show V.int (n : Int) = V.int ((n : Int).toNat : Int)
      rw [Int.toNat_natCast]
    have hsm : Pm (ys.map Int.toNat) := fun n hn => by
      obtain ⟨y, hy, rfl⟩ := List.mem_map.mp hn
      obtain ⟨n, hn2, rfl⟩ := hyn y hy
      rw [Int.toNat_natCast]
      exact hbk n hn2
    have hslt : (ys.map Int.toNat).Pairwise (· < ·) := by
      rw [List.pairwise_map]
      refine pw.imp_of_mem fun {a b} ha hb h => ?_
      obtain ⟨n, _, rfl⟩ := hyn a ha
      obtain ⟨m, _, rfl⟩ := hyn b hb
      rw [Int.toNat_natCast, Int.toNat_natCast]
      omega
    have hsl : (ys.map Int.toNat).length ≤ 6 := by rw [List.length_map]; omega
    have hso : (upd (upd H9 se (SetO w se (fun j => decide (j ∈ pk.map fun n : Nat => (n : Int))) mS)) so (.lst (ys.map V.int))) so = some (.lst (bV (ys.map Int.toNat))) := by rw [upd_same, hsv]
    have sor : so ≠ r := (R9.same (Same.new nse)).new nso
    have R10 := R9.same s10
    generalize ys.map Int.toNat = sm at hso hsm hslt hsl
    have hsle : sm.Pairwise (· ≤ ·) := hslt.imp fun h => Nat.le_of_lt h
    have hsn : sm.Nodup := hslt.imp fun h => Nat.ne_of_lt h
    -- lead
    refine ⟨_, rfl, rfl, _, _, rfl, rfl, r, sc, ns, _, rfl, R10, by decide, by decide, fun v H11 v0 v1 R11 k11 => ?_⟩
    obtain ⟨m3, rfl⟩ := Int.eq_ofNat_of_zero_le v0
    have hld : 1 + m3 < 2305843009213693951 := by omega
    have hso11 := k11 _ _ sor hso
    refine ⟨_, _, rfl, rfl, ?_⟩
    -- poly
    refine ⟨_, rfl, _, rfl, r, sc, so, ns, sm, rfl, R11, hso11, sor, by omega, fun oo om H12 hperm noo oor hoo R12 k12 => ?_⟩
    have hom : Pm om := fun n hn => hsm n (hperm.mem_iff.mp hn)
    have hol : om.length ≤ 6 := by rw [hperm.length_eq]; exact hsl
    refine ⟨oo, om, rfl, SqL.of hoo, hom, by omega, fun fp H13 s13 nfp hfp => ?_⟩
    rw [br_perm hperm] at hfp
    have R13 := R12.same s13
    have hso13 := s13 _ _ (k12 _ _ sor hso11)
    have lbr := br_len sm
    refine ⟨fp, rfl, ⟨_, .inl (.inl hfp)⟩, fun D2 hD2 => ?_⟩
    have D2r := R13.new hD2
    refine lc_tup (K := K) (a := fp) (xs := bV (br sm)) (fun i X => Same H13 X ∧ X D2 = some (.lst (bV ((scl (1 + m3) (br sm)).take i)))) ⟨Same.new hD2, upd_same⟩ (fun i X hi h => .inl (.inl (h.1 _ _ hfp))) ?_ ?_
    · rintro i x X hx ⟨sx, hdx⟩
      obtain ⟨n, hn, rfl⟩ := bV_get hx
      have hi : i < (br sm).length := (List.getElem?_eq_some_iff.mp hn).1
      have hnP := br_pm sm n (List.mem_of_getElem? hn)
      have hsc : (scl (1 + m3) (br sm))[i]? = some (md ((n : Nat) * ((1 + m3 : Nat) : Int))) := by
        unfold scl
        rw [List.getElem?_map, hn]
        rfl
      refine ⟨rfl, ?_⟩
      refine yes ?_
      refine ⟨_, rfl, _, rfl, _, _, rfl, rfl, wide_mul (a := 62) (b := 62) (by omega) (by omega) (by decide) (by decide) (by decide), .inl ⟨_, rfl, rfl, _, _, rfl, rfl, (by show (0 : Int) < 2305843009213693951; decide), ?_⟩⟩
      refine ⟨_, hdx, ?_, fun b u hb => ?_, ?_⟩
      · rw [bV_len, List.length_take, sizeLine_eq]
        omega
      · rw [upd_ne (ne_of_none hb hD2)]
        exact sx _ _ hb
      · rw [upd_same, take_more hsc, ← bV_append]
        show some (HO.lst (_ ++ [V.int ((n : Int) * (1 + (m3 : Int)) % 2305843009213693951)])) = _
        rw [show (n : Int) * (1 + (m3 : Int)) % 2305843009213693951 = (md ((n : Nat) * ((1 + m3 : Nat) : Int)) : Int) by rw [md_int]; rfl]
        rfl
    rintro H14 ⟨s14, hd14⟩
    rw [bV_len, List.take_of_length_le (by rw [scl_len]; exact Nat.le_refl _)] at hd14
    refine ⟨D2, _, rfl, .inl ⟨SqL.of hd14, fun pp npp => ?_⟩⟩
    have s15 := s14.trans (Same.new (o := .tup (bV (scl (1 + m3) (br sm)))) npp)
    have hpp : (upd H14 pp (.tup (bV (scl (1 + m3) (br sm))))) pp = some (.tup (bV (scl (1 + m3) (br sm)))) := upd_same
    generalize upd H14 pp (.tup (bV (scl (1 + m3) (br sm)))) = H15 at s15 hpp
    have R15 := R13.same s15
    have hso15 := s15 _ _ hso13
    refine set_nx ?_
    refine chk_of ?_
    have lsc := scl_len (1 + m3) (br sm)
    refine ⟨_, rfl, pp, scl (1 + m3) (br sm), rfl, .inl (.inl hpp), scl_pm _ _, scl_nz (by omega) hld, (fun e => by rw [e] at lsc; rw [lbr] at lsc; cases lsc), by omega, fun rr hrr => ?_⟩
    have hsc := scl_scl hld hrr
    refine ⟨fun M nl p H16 a1 a2 a3 a4 a5 s16 np hp => ?_, fun hno => absurd ⟨sm, hsn, hsm, hsc⟩ hno⟩
    have hMs : nl = sm := sorted_one (a4.trans (br_inj hsm a2 (hsc.symm.trans a3)).symm) a5 hsle
    subst hMs
    refine ⟨_, rfl, so, _, rfl, .inl ⟨SqL.of (s16 _ _ hso15), fun tt nt => ?_⟩⟩
    have s17 := Same.new (o := .tup (bV nl)) nt
    refine ck_same (d := .tuple (dI nl)) (.tup (.inl (.inl (s17 _ _ hp))) (dI_all K _ _)) (.tup (.inl (.inl upd_same)) (dI_all K _ _)) (plT (by omega) 19) (plT (by omega) 1) fun H18 s18 => ?_
    refine iteF ?_
    have s1518 := (s16.trans s17).trans s18
    have R18 := R15.same s1518
    have hso18 := s1518 _ _ hso15
    -- a root twice
    refine seq_same ?_ ?_
    rotate_left
    · intro rest
      refine ⟨_, rfl, Nat.zero_le _, fun el nel => ?_⟩
      have s19 : Same H18 (upd H18 el (.lst [])) := Same.new nel
      refine ⟨.list (dI nl), .list (dI []), .lst (SqL.of (s19 _ _ hso18)) (dI_all K _ _), .lst (SqL.of upd_same) .nil, dI_shapedL (by omega), dI_shapedL (by decide), ?_⟩
      rw [dI_eqvL]
      generalize upd H18 el (.lst []) = H19 at s19
      have hso19 := s19 _ _ hso18
      refine ⟨_, rfl, ?_⟩
      by_cases hn0 : nl = []
      · rw [decide_eq_true hn0]
        refine iteF ?_
        exact rest H19 s19
      · rw [decide_eq_false hn0]
        refine iteT ?_
        obtain ⟨x0, t0, rfl⟩ : ∃ x0 t0, nl = x0 :: t0 := by
          cases nl with
          | nil => exact absurd rfl hn0
          | cons x0 t0 => exact ⟨x0, t0, rfl⟩
        refine ⟨_, rfl, _, rfl, _, rfl, so, _, rfl, SqL.of hso19, fun y ny => ?_⟩
        have s20 : Same H19 (upd H19 y (.lst (cutV (bV (x0 :: t0)) none (some 1)))) := Same.new ny
        have hy20 : (upd H19 y (.lst (cutV (bV (x0 :: t0)) none (some 1)))) y = some (.lst (bV [x0])) := by
          rw [upd_same]
          congr 2
        generalize upd H19 y (.lst (cutV (bV (x0 :: t0)) none (some 1))) = H20 at s20 hy20
        refine ⟨so, y, _, _, rfl, rfl, s20 _ _ hso19, hy20, ?_, fun cc ncc => ?_⟩
        · rw [bV_len, bV_len, sizeLine_eq]
          show _ + 1 ≤ _
          omega
        have s21 : Same H20 (upd H20 cc (.lst (bV (x0 :: t0) ++ bV [x0]))) := Same.new ncc
        have hcc : (upd H20 cc (.lst (bV (x0 :: t0) ++ bV [x0]))) cc = some (.lst (bV ((x0 :: t0) ++ [x0]))) := by rw [upd_same, bV_append]
        generalize upd H20 cc (.lst (bV (x0 :: t0) ++ bV [x0])) = H21 at s21 hcc
        have l21 : ((x0 :: t0) ++ [x0]).length ≤ 7 := by rw [List.length_append]; show _ + 1 ≤ 7; omega
        refine ⟨cc, (x0 :: t0) ++ [x0], rfl, SqL.of hcc, pm_app hsm (fun n hn => by rw [List.mem_singleton.mp hn]; exact hsm x0 (by simp)), by omega, fun fq H22 s22 nfq hfq => ?_⟩
        have lb2 := br_len ((x0 :: t0) ++ [x0])
        refine ⟨fq, br ((x0 :: t0) ++ [x0]), rfl, .inl (.inl hfq), br_pm _, br_nz _, (fun e => by rw [e] at lb2; cases lb2), by omega, fun r2 hr2' => ?_⟩
        have hb1 := scl_last1 (br_pm _) hr2' (br_last1 _)
        rw [hb1]
        refine ⟨fun M n2 p H23 a1 a2 a3 a4 a5 s23 np hp => absurd ⟨M, a1, a2, a3⟩ (twice hsm), fun _ H23 s23 => ?_⟩
        refine ⟨rfl, _, rfl, ?_⟩
        refine iteF ?_
        exact rest H23 (((s19.trans s20).trans s21).trans (s22.trans s23))
    intro H19 s19
    have R19 := R18.same s19
    have hso19 := s19 _ _ hso18
    -- one, two
    refine ⟨_, rfl, rfl, r, sc, ns, _, rfl, R19, by decide, by decide, fun v H20 v0 v1 R20 k20 => ?_⟩
    obtain ⟨one, rfl⟩ := Int.eq_ofNat_of_zero_le v0
    refine ⟨_, rfl, rfl, r, sc, ns, _, rfl, R20, by decide, by decide, fun v H21 w0 w1 R21 k21 => ?_⟩
    obtain ⟨two, rfl⟩ := Int.eq_ofNat_of_zero_le w0
    have h1P : one < 2305843009213693951 := by omega
    have h2P : two < 2305843009213693951 := by omega
    refine ⟨(by show 2 ≤ sizeLine; decide), fun tp ntp => ⟨tp, _, rfl, .inl (.inl upd_same), rfl, _, _, rfl, _, _, rfl, rfl, ?_⟩⟩
    have R22 := R21.same (Same.new (o := .tup [.int (one : Int), .int (two : Int)]) ntp)
    have hso22 := (Same.new (o := .tup [.int (one : Int), .int (two : Int)]) ntp) _ _ ((k20.trans k21) _ _ sor hso19)
    generalize upd H21 tp (.tup [.int (one : Int), .int (two : Int)]) = H22 at R22 hso22
    -- gap, square
    refine ⟨_, rfl, _, rfl, _, _, rfl, rfl, wide_mul (a := 62) (b := 62) (by omega) (by omega) (by decide) (by decide) (by decide), _, rfl, _, _, rfl, rfl, wide_mul (a := 62) (b := 62) (by decide) (by omega) (by decide) (by decide) (by decide), _, _, rfl, rfl, .inl ⟨_, rfl, rfl, _, _, rfl, rfl, (by show (0 : Int) < 2305843009213693951; decide), ?_⟩⟩
    refine ⟨_, rfl, rfl, _, _, rfl, rfl, _, _, rfl, rfl, wide_div (b := 62) (by decide) (by decide) (by decide) (by decide), md ((one : Int) * (one : Int) - 4 * (two : Int)), 1152921504606846975, ?_, md_lt _, by decide, fun sq hsq esq => ?_⟩
    · show [V.int (((one : Int) * (one : Int) - 4 * (two : Int)) % 2305843009213693951), V.int ((2305843009213693951 - 1) / 2)] = _
      rw [← md_int]
      rfl
    have hqi := qd_iff h1P h2P
    rw [← esq] at hqi
    refine set_nx ?_
    refine seq_cut3 10 (fun td H' => Same H22 H' ∧ Told H' one two td) ?_ ?_
    rotate_left
    · intro rest
      refine ⟨_, rfl, _, rfl, (by show 3 ≤ sizeLine; decide), fun q3 nq3 => ?_⟩
      have s23 : Same H22 (upd H22 q3 (.tup [.int (two : Int), .int (one : Int), .int 1])) := Same.new nq3
      have hq3 : (upd H22 q3 (.tup [.int (two : Int), .int (one : Int), .int 1])) q3 = some (.tup (bV (qd two one))) := upd_same
      generalize upd H22 q3 (.tup [.int (two : Int), .int (one : Int), .int 1]) = H23 at s23 hq3
      refine ⟨q3, qd two one, rfl, .inl (.inl hq3), qd_pm h1P h2P, qd_nz _ _, (fun e => nomatch e), (by show 3 ≤ 61; decide), fun r2 hr2' => ?_⟩
      rw [scl_last1 (qd_pm h1P h2P) hr2' rfl]
      refine ⟨fun M nl p H24 a1 a2 a3 a4 a5 s24 np hp => ?_, fun hno H24 s24 => ?_⟩
      · have hnl : nl.Nodup := a4.nodup_iff.mpr a1
        have pnl : Pm nl := fun n hn => a2 n (a4.mem_iff.mp hn)
        have hqb : qd two one = br nl := a3.trans (br_perm a4).symm
        have hsq1 : sq = 1 := c_inj hsq (by decide) (hqi.mp ⟨M, a1, a2, a3⟩)
        subst hsq1
        have lnl : nl.length = 2 := by
          have := congrArg List.length hqb
          rw [br_len] at this
          have h3 : 3 = nl.length + 1 := this
          omega
        have hb : decide (V.ref p = V.non) = false := decide_eq_false (fun e => nomatch e)
        refine ⟨_, rfl, rfl, _, rfl, rfl, rfl, _, rfl, ?_⟩
        rw [hb]
        refine iteF ?_
        refine ⟨_, rfl, rfl, _, rfl, ?_⟩
        rw [hb]
        refine iteT ?_
        refine ⟨_, rfl, p, _, rfl, .inr (.inl (.inl hp)), rfl, _, rfl, ?_⟩
        rw [bV_len, lnl]
        refine iteF ?_
        refine ⟨_, rfl, p, rfl, ⟨_, .inl (.inl hp)⟩, fun D3 hD3 => ?_⟩
        refine lc_tup (K := K) (a := p) (xs := bV nl) (fun i X => Same H24 X ∧ X D3 = some (.lst [])) ⟨Same.new hD3, upd_same⟩ (fun i X hi h => .inl (.inl (h.1 _ _ hp))) ?_ ?_
        · rintro i x X hx ⟨sx, hdx⟩
          obtain ⟨n, hn, rfl⟩ := bV_get hx
          have hnm := List.mem_of_getElem? hn
          refine ⟨rfl, ?_⟩
          refine ⟨_, rfl, _, rfl, (by show 3 ≤ sizeLine; decide), fun q4 nq4 => ?_⟩
          have s4 : Same X (upd X q4 (.tup [.int (two : Int), .int (one : Int), .int 1])) := Same.new nq4
          have h4 : (upd X q4 (.tup [.int (two : Int), .int (one : Int), .int 1])) q4 = some (.tup (bV (qd two one))) := upd_same
          refine ⟨_, rfl, q4, qd two one, n, rfl, .inl (.inl h4), qd_pm h1P h2P, pnl n hnm, fun H5 s5 => ?_⟩
          have h0 : hor n (qd two one) = 0 := by rw [hqb]; exact hor_root pnl hnm
          rw [h0]
          refine ⟨rfl, _, rfl, ?_⟩
          refine iteF ?_
          exact ⟨(sx.trans s4).trans s5, s5 _ _ (s4 _ _ hdx)⟩
        · rintro H25 ⟨s25, hd25⟩
          refine ⟨Nat.zero_le _, fun e2 ne2 => ?_⟩
          have s26 : Same H25 (upd H25 e2 (.lst [])) := Same.new ne2
          refine ⟨.list (dI []), .list (dI []), .lst (SqL.of (s26 _ _ hd25)) .nil, .lst (SqL.of upd_same) .nil, dI_shapedL (by decide), dI_shapedL (by decide), ?_⟩
          rw [dI_eqvL, decide_eq_true rfl]
          refine ⟨_, rfl, ?_⟩
          refine iteF ?_
          have s2426 := s25.trans s26
          exact rest _ _ ⟨(s23.trans s24).trans s2426, .inr ⟨p, nl, rfl, s2426 _ _ hp, hnl, pnl, hqb⟩⟩
      · have hsq1 : ¬ sq = 1 := fun e => hno (hqi.mpr (by rw [e]; rfl))
        refine ⟨_, rfl, rfl, _, rfl, rfl, rfl, _, rfl, ?_⟩
        rw [show decide (V.int (sq : Int) = V.int 1) = false from decide_eq_false fun e => hsq1 (by injection e with e; omega)]
        refine iteF ?_
        refine ⟨_, rfl, rfl, _, rfl, ?_⟩
        refine iteF ?_
        exact rest _ _ ⟨s23.trans s24, .inl ⟨rfl, hno⟩⟩
    rintro td H23 ⟨s23, hTd⟩
    have hso23 := s23 _ _ hso22
    -- many
    refine ⟨_, rfl, .inl ⟨_, rfl, rfl, _, _, rfl, rfl, (by show (0 : Int) < 2305843009213693951; decide), _, rfl, (by show 3 ≤ sizeLine; decide), fun mo nmo => ?_⟩⟩
    have s24 : Same H23 (upd H23 mo (.lst [.int ((two : Int) % 2305843009213693951), .int (one : Int), .int 1])) := Same.new nmo
    have hmo24 : (upd H23 mo (.lst [.int ((two : Int) % 2305843009213693951), .int (one : Int), .int 1])) mo = some (.lst (bV (qd two one))) := by
      rw [upd_same, show (two : Int) % 2305843009213693951 = (two : Int) by omega]
      rfl
    generalize upd H23 mo (.lst [.int ((two : Int) % 2305843009213693951), .int (one : Int), .int 1]) = H24 at s24 hmo24
    -- wide
    refine ⟨by decide, fun z3 nz3 => ?_⟩
    have s25 : Same H24 (upd H24 z3 (.lst [.int 0])) := Same.new nz3
    have hz25 : (upd H24 z3 (.lst [.int 0])) z3 = some (.lst [.int 0]) := upd_same
    generalize upd H24 z3 (.lst [.int 0]) = H25 at s25 hz25
    have s2325 := s24.trans s25
    have lsm : nl.length ≤ 6 := hsl
    refine ⟨_, rfl, so, _, rfl, .inl (SqL.of (s2325 _ _ hso23)), _, _, rfl, rfl, z3, _, _, rfl, rfl, hz25, ?_, ?_, ?_, fun wo nwo => ?_⟩
    · rw [bV_len]; omega
    · rw [bV_len]; omega
    · rw [bV_len, sizeLine_eq]
      show 1 * _ ≤ _
      omega
    rw [bV_rep, bV_len, show ((nl.length : Int) + 3).toNat = nl.length + 3 by omega]
    have nwo23 : H23 wo = none := s2325.free nwo
    have s26 : Same H25 (upd H25 wo (.lst (bV (List.replicate (nl.length + 3) 0)))) := Same.new nwo
    have hwo26 : (upd H25 wo (.lst (bV (List.replicate (nl.length + 3) 0)))) wo = some (.lst (bV (List.replicate (nl.length + 3) 0))) := upd_same
    generalize upd H25 wo (.lst (bV (List.replicate (nl.length + 3) 0))) = H26 at s26 hwo26
    have s2326 := s2325.trans s26
    -- base
    refine ⟨_, rfl, so, nl, rfl, SqL.of (s2326 _ _ hso23), hsm, by omega, fun bo H27 s27 nbo hbo => ?_⟩
    have s2327 := s2326.trans s27
    have hmo27 := (s25.trans (s26.trans s27)) _ _ hmo24
    have hmw : mo ≠ wo := ne_of_none (s25 _ _ hmo24) nwo
    have hbw : bo ≠ wo := fun e => by
      have h1 := s27 _ _ hwo26
      rw [← e, hbo] at h1
      cases h1
    have lbm : (br nl).length = nl.length + 1 := br_len nl
    refine ⟨_, rfl, bo, _, rfl, .inr (.inl (.inl hbo)), nl.length + 1, (by rw [bV_len, lbm]; rfl), by omega, by omega, ?_⟩
    refine for_range (n := nl.length + 1) (fun k σ X => ∃ (L : List Nat) (v14 v15 : Option V), σ = [some (.ref sc), some (.ref r), some (.ref p2), some (.ref so), some (.int (1 + (m3 : Int))), some (.ref pp), some (.int one), some (.int two), some (.int (((one : Int) * (one : Int) - 4 * (two : Int)) % 2305843009213693951)), some (.int sq), some td, some (.ref mo), some (.ref wo), some (.ref bo), v14, v15, none, none, none] ∧ Same H23 X ∧ X wo = some (.lst (bV L)) ∧ X mo = some (.lst (bV (qd two one))) ∧ X bo = some (.tup (bV (br nl))) ∧ L.length = nl.length + 3 ∧ Pm L ∧ cf L = Po.mul (((br nl).take k).map Pk.cn) (cf (qd two one)))
      ⟨_, none, none, rfl, s2327, s27 _ _ hwo26, hmo27, hbo, List.length_replicate, pm_rep _, Hp.cf_z _⟩ ?_ ?_
    · rintro k σ X hk ⟨L, v14, v15, rfl, sX, hwX, hmX, hbX, lL, pL, cL⟩
      have hbk : (br nl)[k]? = some ((br nl).getD k 0) := pg_at (by omega)
      have hfP := (br_pm nl).at k
      refine ⟨3, rfl, by decide, by decide, ?_⟩
      refine for_range (n := 3) (fun j σ Y => ∃ (L' : List Nat) (v15 : Option V), σ = [some (.ref sc), some (.ref r), some (.ref p2), some (.ref so), some (.int (1 + (m3 : Int))), some (.ref pp), some (.int one), some (.int two), some (.int (((one : Int) * (one : Int) - 4 * (two : Int)) % 2305843009213693951)), some (.int sq), some td, some (.ref mo), some (.ref wo), some (.ref bo), some (.int ((0 : Int) + (k : Int))), v15, none, none, none] ∧ Same H23 Y ∧ Y wo = some (.lst (bV L')) ∧ Y mo = some (.lst (bV (qd two one))) ∧ Y bo = some (.tup (bV (br nl))) ∧ Prdd L (qd two one) k ((br nl).getD k 0) j L')
        ⟨L, v15, rfl, sX, hwX, hmX, hbX, rfl, pL, fun i => by rw [if_neg (by omega)]⟩ ?_ ?_
      · rintro j σ Y hj ⟨L', v15', rfl, sY, hwY, hmY, hbY, hT⟩
        have hL'len := hT.1
        have hqj : (qd two one)[j]? = some ((qd two one).getD j 0) := pg_at hj
        have hqP := (qd_pm h1P h2P).at j
        refine ⟨_, rfl, _, rfl, _, rfl, _, _, rfl, rfl, wo, _, _, _, rfl, rfl, SqL.of hwY, at_of (j := k + j) (by omega) (bV_at (pg_at (by omega))), _, rfl, _, rfl, bo, _, _, _, rfl, rfl, .inl (.inl hbY), at_of (j := k) (by omega) (bV_at hbk), _, rfl, _, rfl, mo, _, _, _, rfl, rfl, SqL.of hmY, at_of (j := j) (by omega) (bV_at hqj), _, _, rfl, rfl, wide_mul (a := 62) (b := 62) (by omega) (by omega) (by decide) (by decide) (by decide), _, _, rfl, rfl, .inl ⟨_, rfl, rfl, _, _, rfl, rfl, (by show (0 : Int) < 2305843009213693951; decide), ?_⟩⟩
        refine ⟨_, rfl, _, rfl, _, rfl, _, _, rfl, rfl, wo, _, _, k + j, rfl, rfl, hwY, ?_, ?_⟩
        · rw [bV_len]
          exact pix (by omega) (by omega)
        refine ⟨_, _, rfl, sameF sY nwo23, ?_, by rw [upd_ne hmw]; exact hmY, by rw [upd_ne hbw]; exact hbY, hT.next (by omega)⟩
        rw [upd_same]
        show some (HO.lst ((bV L').set (k + j) (V.int ((((L'.getD (k + j) 0 : Nat) : Int) + (((br nl).getD k 0 : Nat) : Int) * (((qd two one).getD j 0 : Nat) : Int)) % 2305843009213693951)))) = _
        rw [← md_int, pbV_set]
      · rintro σ Y ⟨L', v15', rfl, sY, hwY, hmY, hbY, hT⟩
        refine ⟨L', _, _, rfl, sY, hwY, hmY, hbY, by rw [hT.1, lL], hT.2.1, ?_⟩
        have hT3 : Prdd L (qd two one) k ((br nl).getD k 0) (qd two one).length L' := hT
        rw [hT3.cf, cL, take_more hbk, List.map_append]
        show _ = Po.mul (((br nl).take k).map Pk.cn ++ [Pk.cn ((br nl).getD k 0)]) _
        rw [mul_snoc, List.length_map, List.length_take, Nat.min_eq_left (by omega)]
    rintro σ H28 ⟨L, v14, v15, rfl, s28, hwo28, hmo28, hbo28, lL, pL, cL⟩
    rw [List.take_of_length_le (by omega)] at cL
    have cW := wide_cf cL
    have lastL := wide_last pL lL cW
    have hso28 := s28 _ _ hso23
    have zL : NoZ L := .inr (by rw [lastL]; decide)
    -- clear, and the end
    rcases hTd with ⟨rfl, hno⟩ | ⟨pt, tl, rfl, hpt, tn, tpm, hqb⟩
    · have hnoL := wide_no h1P h2P cL hno
      have hwoE := hwo28
      refine ⟨_, rfl, rfl, _, rfl, ?_⟩
      refine iteF ?_
      refine ⟨_, rfl, wo, _, rfl, .inl ⟨SqL.of hwoE, fun tw ntw => ?_⟩⟩
      refine ⟨tw, L, rfl, .inl (.inl upd_same), pL, zL, (fun e => by rw [e] at lL; cases lL), by omega, fun rr hrr => ?_⟩
      rw [scl_last1 pL hrr lastL]
      refine ⟨fun M n2 px Hx a1 a2 a3 _ _ _ _ _ => absurd ⟨M, a1, a2, a3⟩ hnoL, fun _ Hx sx => ?_⟩
      refine ⟨_, rfl, _, rfl, ?_⟩
      refine iteF ?_
      refine ⟨.non, .non, .none, .none, rfl, .non, .non, trivial, trivial, fun b Hy hb sy => ?_⟩
      obtain rfl : b = true := hb.mpr rfl
      refine ⟨_, rfl, ?_⟩
      refine iteT ?_
      refine ⟨_, rfl, (by show 1 ≤ sizeLine; decide), fun lt nlt => ?_⟩
      refine ⟨lt, [1 + m3], rfl, .inl (.inl upd_same), (fun n hn => by rw [List.mem_singleton.mp hn]; exact hld), .inr (by show 1 + m3 ≠ 0; omega), (fun e => nomatch e), (by show 1 ≤ 61; decide), fun r2 h2 => ?_⟩
      rw [lead_br h2]
      refine ⟨fun M n2 pz Hz a1 a2 a3 a4 a5 sz npz hpz => ?_, fun hno => absurd ⟨[], List.nodup_nil, (fun n hn => nomatch hn), rfl⟩ hno⟩
      have hM0 : n2 = [] := (a4.trans (br_inj (A := []) (fun n hn => nomatch hn) a2 a3).symm).eq_nil
      subst hM0
      refine ⟨Nat.zero_le _, fun ez nez => ?_⟩
      have sez : Same Hz (upd Hz ez (.tup [])) := Same.new nez
      refine ⟨.tuple (dI []), .tuple (dI []), .tup (.inl (.inl (sez _ _ hpz))) .nil, .tup (.inl (.inl upd_same)) .nil, dI_shaped (by decide), dI_shaped (by decide), ?_⟩
      rw [dI_eqvT, decide_eq_true rfl]
      exact q _
    · have hLb := wide_br pL lL cW hqb
      have hpt28 := s28 _ _ hpt
      have ltl : tl.length = 2 := by
        have := congrArg List.length hqb
        rw [br_len] at this
        have h3 : 3 = tl.length + 1 := this
        omega
      refine ⟨_, rfl, rfl, _, rfl, ?_⟩
      rw [show decide (V.ref pt = V.non) = false from decide_eq_false (fun e => nomatch e)]
      refine iteT ?_
      refine ⟨_, rfl, pt, rfl, ⟨_, .inl (.inl hpt28)⟩, fun D4 hD4 => ?_⟩
      refine lc_tup (K := K) (a := pt) (xs := bV tl) (fun i X => Same H28 X ∧ X D4 = some (.lst (bV ((tl.take i).filter fun n => decide (n ∈ nl))))) ⟨Same.new hD4, upd_same⟩ (fun i X hi h => .inl (.inl (h.1 _ _ hpt28))) ?_ ?_
      · rintro i x X hx ⟨sx, hdx⟩
        obtain ⟨n, hn, rfl⟩ := bV_get hx
        refine ⟨rfl, ?_⟩
        refine ⟨_, rfl, _, rfl, so, _, rfl, .inl (SqL.of (sx _ _ hso28)), rfl, flat_bV nl, _, rfl, ?_⟩
        rw [if_neg (by decide), inV_bV, take_more hn, List.filter_append]
        by_cases hm : n ∈ nl
        · rw [decide_eq_true hm]
          refine iteT ?_
          refine ⟨_, rfl, _, hdx, ?_, fun b u hb => ?_, ?_⟩
          · rw [bV_len, sizeLine_eq]
            have h1 : ((tl.take i).filter fun n => decide (n ∈ nl)).length ≤ (tl.take i).length := List.length_filter_le _ _
            rw [List.length_take] at h1
            omega
          · rw [upd_ne (ne_of_none hb hD4)]
            exact sx _ _ hb
          · rw [upd_same, List.filter_cons_of_pos (by rw [decide_eq_true hm]), ← bV_append]
            rfl
        · rw [decide_eq_false hm]
          refine iteF ?_
          refine ⟨sx, ?_⟩
          rw [List.filter_cons_of_neg (by rw [decide_eq_false hm]; decide)]
          show _ = some (HO.lst (bV (_ ++ [])))
          rw [List.append_nil]
          exact hdx
      · rintro H29 ⟨s29, hd29⟩
        rw [bV_len, List.take_length] at hd29
        have hFl : (tl.filter fun n => decide (n ∈ nl)).length ≤ 2 := by
          have : (tl.filter fun n => decide (n ∈ nl)).length ≤ tl.length := List.length_filter_le _ _
          omega
        refine ⟨Nat.zero_le _, fun e3 ne3 => ?_⟩
        have s30 : Same H29 (upd H29 e3 (.lst [])) := Same.new ne3
        refine ⟨.list (dI (tl.filter fun n => decide (n ∈ nl))), .list (dI []), .lst (SqL.of (s30 _ _ hd29)) (dI_all K _ _), .lst (SqL.of upd_same) .nil, dI_shapedL (by omega), dI_shapedL (by decide), ?_⟩
        rw [dI_eqvL]
        generalize upd H29 e3 (.lst []) = H30 at s30
        have s2830 := s29.trans s30
        have hwoE := s2830 _ _ hwo28
        have hsoE := s2830 _ _ hso28
        have hptE := s2830 _ _ hpt28
        by_cases hF : (tl.filter fun n => decide (n ∈ nl)) = []
        · rw [decide_eq_true hF]
          have hdis : ∀ x, x ∈ tl → x ∉ nl := fun x h1 h2 => by
            have : x ∈ tl.filter fun n => decide (n ∈ nl) := List.mem_filter.mpr ⟨h1, decide_eq_true h2⟩
            rw [hF] at this
            cases this
          have hnd : (nl ++ tl).Nodup := List.nodup_append.mpr ⟨hsn, tn, fun a ha b hb e => hdis b hb (e ▸ ha)⟩
          have hpmE : Pm (nl ++ tl) := pm_app hsm tpm
          refine ⟨_, rfl, wo, _, rfl, .inl ⟨SqL.of hwoE, fun tw ntw => ?_⟩⟩
          have s31 : Same H30 (upd H30 tw (.tup (bV L))) := Same.new ntw
          refine ⟨tw, L, rfl, .inl (.inl upd_same), pL, zL, (fun e => by rw [e] at lL; cases lL), by omega, fun rr hrr => ?_⟩
          rw [scl_last1 pL hrr lastL]
          refine ⟨fun M n2 px Hx a1 a2 a3 a4 a5 sx npx hpx => ?_, fun hno => absurd ⟨_, hnd, hpmE, hLb⟩ hno⟩
          have hn2 : n2.Perm (nl ++ tl) := a4.trans (br_inj hpmE a2 (hLb.symm.trans a3)).symm
          have s3x := s31.trans sx
          refine ⟨_, rfl, _, rfl, ?_⟩
          refine iteT ?_
          refine ⟨_, rfl, _, rfl, pt, _, rfl, .inr (.inl (.inl (s3x _ _ hptE))), fun lo nlo => ?_⟩
          have s32 : Same Hx (upd Hx lo (.lst (bV tl))) := Same.new nlo
          refine ⟨so, lo, _, _, rfl, rfl, s32 _ _ (s3x _ _ hsoE), upd_same, ?_, fun cc ncc => ?_⟩
          · rw [bV_len, bV_len, sizeLine_eq]
            omega
          have s33 := s32.trans (Same.new (o := .lst (bV nl ++ bV tl)) ncc)
          have hcc : (upd (upd Hx lo (.lst (bV tl))) cc (.lst (bV nl ++ bV tl))) cc = some (.lst (bV (nl ++ tl))) := by rw [upd_same, bV_append]
          generalize upd (upd Hx lo (.lst (bV tl))) cc (.lst (bV nl ++ bV tl)) = H33 at s33 hcc
          refine ⟨cc, (nl ++ tl).map fun n : Nat => (n : Int), rfl, SqL.of (by rw [bV_int]; exact hcc), by rw [List.length_map, List.length_append]; omega, fun yz pz hyz pwz npz => ?_⟩
          obtain ⟨e1, e2⟩ := nats_of hyz
          have hyn2 : yz.map Int.toNat = n2 := sorted_one (e2.trans hn2.symm) (pw_nat pwz) a5
          rw [hyn2] at e1
          rw [e1]
          have s34 := s33.trans (Same.new (o := .lst (bV n2)) npz)
          refine ⟨pz, _, rfl, .inl ⟨SqL.of upd_same, fun tz ntz => ?_⟩⟩
          have s35 := s34.trans (Same.new (o := .tup (bV n2)) ntz)
          have hln2 : n2.length ≤ 100000 := by rw [hn2.length_eq, List.length_append]; omega
          refine ⟨.ref px, .ref tz, .tuple (dI n2), .tuple (dI n2), rfl, .tup (.inl (.inl (s35 _ _ hpx))) (dI_all K _ _), .tup (.inl (.inl upd_same)) (dI_all K _ _), plT hln2 19, plT hln2 1, fun b Hy hb sy => ?_⟩
          obtain rfl : b = true := hb.mpr rfl
          refine ⟨_, rfl, ?_⟩
          refine iteT ?_
          refine ⟨_, rfl, (by show 1 ≤ sizeLine; decide), fun lt nlt => ?_⟩
          refine ⟨lt, [1 + m3], rfl, .inl (.inl upd_same), (fun n hn => by rw [List.mem_singleton.mp hn]; exact hld), .inr (by show 1 + m3 ≠ 0; omega), (fun e => nomatch e), (by show 1 ≤ 61; decide), fun r2 h2 => ?_⟩
          rw [lead_br h2]
          refine ⟨fun M n2 pz Hz a1 a2 a3 a4 a5 sz npz hpz => ?_, fun hno => absurd ⟨[], List.nodup_nil, (fun n hn => nomatch hn), rfl⟩ hno⟩
          have hM0 : n2 = [] := (a4.trans (br_inj (A := []) (fun n hn => nomatch hn) a2 a3).symm).eq_nil
          subst hM0
          refine ⟨Nat.zero_le _, fun ez nez => ?_⟩
          have sez : Same Hz (upd Hz ez (.tup [])) := Same.new nez
          refine ⟨.tuple (dI []), .tuple (dI []), .tup (.inl (.inl (sez _ _ hpz))) .nil, .tup (.inl (.inl upd_same)) .nil, dI_shaped (by decide), dI_shaped (by decide), ?_⟩
          rw [dI_eqvT, decide_eq_true rfl]
          exact q _
        · rw [decide_eq_false hF]
          obtain ⟨x, hx⟩ := List.exists_mem_of_ne_nil _ hF
          have hx2 := List.mem_filter.mp hx
          have hnoL := wide_twice hsm tpm hLb hx2.1 (of_decide_eq_true hx2.2)
          refine ⟨_, rfl, wo, _, rfl, .inl ⟨SqL.of hwoE, fun tw ntw => ?_⟩⟩
          refine ⟨tw, L, rfl, .inl (.inl upd_same), pL, zL, (fun e => by rw [e] at lL; cases lL), by omega, fun rr hrr => ?_⟩
          rw [scl_last1 pL hrr lastL]
          refine ⟨fun M n2 px Hx a1 a2 a3 _ _ _ _ _ => absurd ⟨M, a1, a2, a3⟩ hnoL, fun _ Hx sx => ?_⟩
          refine ⟨_, rfl, _, rfl, ?_⟩
          refine iteF ?_
          refine ⟨.non, .non, .none, .none, rfl, .non, .non, trivial, trivial, fun b Hy hb sy => ?_⟩
          obtain rfl : b = true := hb.mpr rfl
          refine ⟨_, rfl, ?_⟩
          refine iteT ?_
          refine ⟨_, rfl, (by show 1 ≤ sizeLine; decide), fun lt nlt => ?_⟩
          refine ⟨lt, [1 + m3], rfl, .inl (.inl upd_same), (fun n hn => by rw [List.mem_singleton.mp hn]; exact hld), .inr (by show 1 + m3 ≠ 0; omega), (fun e => nomatch e), (by show 1 ≤ 61; decide), fun r2 h2 => ?_⟩
          rw [lead_br h2]
          refine ⟨fun M n2 pz Hz a1 a2 a3 a4 a5 sz npz hpz => ?_, fun hno => absurd ⟨[], List.nodup_nil, (fun n hn => nomatch hn), rfl⟩ hno⟩
          have hM0 : n2 = [] := (a4.trans (br_inj (A := []) (fun n hn => nomatch hn) a2 a3).symm).eq_nil
          subst hM0
          refine ⟨Nat.zero_le _, fun ez nez => ?_⟩
          have sez : Same Hz (upd Hz ez (.tup [])) := Same.new nez
          refine ⟨.tuple (dI []), .tuple (dI []), .tup (.inl (.inl (sez _ _ hpz))) .nil, .tup (.inl (.inl upd_same)) .nil, dI_shaped (by decide), dI_shaped (by decide), ?_⟩
          rw [dI_eqvT, decide_eq_true rfl]
          exact q _
end
end K07
namespace K07
open PySem L2 Pg RZ
/-- values of the written part that are these numbers -/
def visN : List Nat → List Value → Bool
  | [], [] => true
  | n :: l, .int i _ :: us => decide (i = (n : Int)) && visN l us
  | _, _ => false
theorem visN_vals : ∀ {l : List Nat} {us : List Value}, visN l us = true → Vals (bV l) us
  | [], [], _ => .nil
  | n :: l, .int i t :: us, h => by
    have h' : (decide (i = (n : Int)) && visN l us) = true := h
    rw [Bool.and_eq_true, decide_eq_true_eq] at h'
    exact .cons ⟨t, by rw [h'.1]⟩ (visN_vals h'.2)
theorem visN_len : ∀ {l : List Nat} {us : List Value}, visN l us = true → us.length = l.length := fun {l us} h => by
  have := (visN_vals h).length
  rw [bV_len] at this
  exact this.symm
theorem tupN_size {l : List Nat} {us : Array Value} (h : visN l us.toList = true) (hl : l.length ≤ 1000) : us.size ≤ sizeLine := by
  have := visN_len h
  rw [Array.length_toList] at this
  rw [this]
  exact Nat.le_trans hl (by decide)
theorem dfn_mk {K : PySem.W.Frag} {h : Heap} {mg : Str → Option Value} {x : Str} {st : Stmt} {ps : List Str} {f : Addr} {oc : Value} {od an : Option Addr} {osl : Array (Option Value)} {kV doc pm cdv ct : Value} (X : K.In h) (G : h.Ns mainGlobals mg)
    (a : PySem.W.nsIn K mainGlobals x = some (some (.ref f))) (l : K.lookup f = some ⟨oc, od, .func (PySem.W.fnOf x x (defArgs st) (defBody st) (defScope st) .none kV doc pm an cdv ct), osl⟩) (c : PySem.W.codeIn K cdv x = true) (k : PySem.W.keepIn K (.ref f) = true)
    (b : ∀ (kV doc pm : Value) (an : Option Addr) (cdv ct : Value) (us : List Value), us.length = ps.length → bindArgs (PySem.W.fnOf x x (defArgs st) (defBody st) (defScope st) .none kV doc pm an cdv ct) ⟨us, []⟩ = pure (ps.zip us)) :
    Dfn K mg x st ps f (PySem.W.fnOf x x (defArgs st) (defBody st) (defScope st) .none kV doc pm an cdv ct) := ⟨fun_mk l c k, PySem.W.mg_of X G a, (fun_mk l c k).binds b⟩
theorem all_mk {l : PySem.W.OpenLaw} {w : World} {K : PySem.W.Frag} {h : Heap} {mg : Str → Option Value} {fa f1 f2 f3 f4 f5 f6 f7 f8 f9 f10 f11 f12 f13 f14 f15 f16 f17 f18 f19 f20 f21 f22 f23 f24 f25 f26 f27 f28 f29 f30 : Addr} (X : K.In h) (G : h.Ns mainGlobals mg) (hfa : mg "law" = some (.ref fa))
    {od1 an1 od2 an2 od3 an3 od4 an4 od5 an5 od6 an6 od7 an7 od8 an8 od9 an9 od10 an10 od11 an11 od12 an12 od13 an13 od14 an14 od15 an15 od16 an16 od17 an17 od18 an18 od19 an19 od20 an20 od21 an21 od22 an22 od23 an23 od24 an24 od25 an25 od26 an26 od27 an27 od28 an28 od29 an29 od30 an30 : Option Addr} {sl1 sl2 sl3 sl4 sl5 sl6 sl7 sl8 sl9 sl10 sl11 sl12 sl13 sl14 sl15 sl16 sl17 sl18 sl19 sl20 sl21 sl22 sl23 sl24 sl25 sl26 sl27 sl28 sl29 sl30 : Array (Option Value)} {oc1 kV1 dc1 pm1 cd1 ct1 oc2 kV2 dc2 pm2 cd2 ct2 oc3 kV3 dc3 pm3 cd3 ct3 oc4 kV4 dc4 pm4 cd4 ct4 oc5 kV5 dc5 pm5 cd5 ct5 oc6 kV6 dc6 pm6 cd6 ct6 oc7 kV7 dc7 pm7 cd7 ct7 oc8 kV8 dc8 pm8 cd8 ct8 oc9 kV9 dc9 pm9 cd9 ct9 oc10 kV10 dc10 pm10 cd10 ct10 oc11 kV11 dc11 pm11 cd11 ct11 oc12 kV12 dc12 pm12 cd12 ct12 oc13 kV13 dc13 pm13 cd13 ct13 oc14 kV14 dc14 pm14 cd14 ct14 oc15 kV15 dc15 pm15 cd15 ct15 oc16 kV16 dc16 pm16 cd16 ct16 oc17 kV17 dc17 pm17 cd17 ct17 oc18 kV18 dc18 pm18 cd18 ct18 oc19 kV19 dc19 pm19 cd19 ct19 oc20 kV20 dc20 pm20 cd20 ct20 oc21 kV21 dc21 pm21 cd21 ct21 oc22 kV22 dc22 pm22 cd22 ct22 oc23 kV23 dc23 pm23 cd23 ct23 oc24 kV24 dc24 pm24 cd24 ct24 oc25 kV25 dc25 pm25 cd25 ct25 oc26 kV26 dc26 pm26 cd26 ct26 oc27 kV27 dc27 pm27 cd27 ct27 oc28 kV28 dc28 pm28 cd28 ct28 oc29 kV29 dc29 pm29 cd29 ct29 oc30 kV30 dc30 pm30 cd30 ct30 : Value}
    {t_PRIME t_MOST_ROOTS t_ROOM t_ROOM_MASK : Tok}
    (a1 : PySem.W.nsIn K mainGlobals "is_between" = some (some (.ref f1))) (l1 : K.lookup f1 = some ⟨oc1, od1, .func (PySem.W.fnOf "is_between" "is_between" (defArgs sis_between) (defBody sis_between) (defScope sis_between) .none kV1 dc1 pm1 an1 cd1 ct1), sl1⟩) (c1 : PySem.W.codeIn K cd1 "is_between" = true) (k1 : PySem.W.keepIn K (.ref f1) = true)
    (a2 : PySem.W.nsIn K mainGlobals "is_number" = some (some (.ref f2))) (l2 : K.lookup f2 = some ⟨oc2, od2, .func (PySem.W.fnOf "is_number" "is_number" (defArgs sis_number) (defBody sis_number) (defScope sis_number) .none kV2 dc2 pm2 an2 cd2 ct2), sl2⟩) (c2 : PySem.W.codeIn K cd2 "is_number" = true) (k2 : PySem.W.keepIn K (.ref f2) = true)
    (a3 : PySem.W.nsIn K mainGlobals "is_numbers" = some (some (.ref f3))) (l3 : K.lookup f3 = some ⟨oc3, od3, .func (PySem.W.fnOf "is_numbers" "is_numbers" (defArgs sis_numbers) (defBody sis_numbers) (defScope sis_numbers) .none kV3 dc3 pm3 an3 cd3 ct3), sl3⟩) (c3 : PySem.W.codeIn K cd3 "is_numbers" = true) (k3 : PySem.W.keepIn K (.ref f3) = true)
    (a4 : PySem.W.nsIn K mainGlobals "is_poly" = some (some (.ref f4))) (l4 : K.lookup f4 = some ⟨oc4, od4, .func (PySem.W.fnOf "is_poly" "is_poly" (defArgs sis_poly) (defBody sis_poly) (defScope sis_poly) .none kV4 dc4 pm4 an4 cd4 ct4), sl4⟩) (c4 : PySem.W.codeIn K cd4 "is_poly" = true) (k4 : PySem.W.keepIn K (.ref f4) = true)
    (a5 : PySem.W.nsIn K mainGlobals "inverse" = some (some (.ref f5))) (l5 : K.lookup f5 = some ⟨oc5, od5, .func (PySem.W.fnOf "inverse" "inverse" (defArgs sinverse) (defBody sinverse) (defScope sinverse) .none kV5 dc5 pm5 an5 cd5 ct5), sl5⟩) (c5 : PySem.W.codeIn K cd5 "inverse" = true) (k5 : PySem.W.keepIn K (.ref f5) = true)
    (a6 : PySem.W.nsIn K mainGlobals "trimmed" = some (some (.ref f6))) (l6 : K.lookup f6 = some ⟨oc6, od6, .func (PySem.W.fnOf "trimmed" "trimmed" (defArgs strimmed) (defBody strimmed) (defScope strimmed) .none kV6 dc6 pm6 an6 cd6 ct6), sl6⟩) (c6 : PySem.W.codeIn K cd6 "trimmed" = true) (k6 : PySem.W.keepIn K (.ref f6) = true)
    (a7 : PySem.W.nsIn K mainGlobals "poly_sum" = some (some (.ref f7))) (l7 : K.lookup f7 = some ⟨oc7, od7, .func (PySem.W.fnOf "poly_sum" "poly_sum" (defArgs spoly_sum) (defBody spoly_sum) (defScope spoly_sum) .none kV7 dc7 pm7 an7 cd7 ct7), sl7⟩) (c7 : PySem.W.codeIn K cd7 "poly_sum" = true) (k7 : PySem.W.keepIn K (.ref f7) = true)
    (a8 : PySem.W.nsIn K mainGlobals "poly_scaled" = some (some (.ref f8))) (l8 : K.lookup f8 = some ⟨oc8, od8, .func (PySem.W.fnOf "poly_scaled" "poly_scaled" (defArgs spoly_scaled) (defBody spoly_scaled) (defScope spoly_scaled) .none kV8 dc8 pm8 an8 cd8 ct8), sl8⟩) (c8 : PySem.W.codeIn K cd8 "poly_scaled" = true) (k8 : PySem.W.keepIn K (.ref f8) = true)
    (a9 : PySem.W.nsIn K mainGlobals "poly_product" = some (some (.ref f9))) (l9 : K.lookup f9 = some ⟨oc9, od9, .func (PySem.W.fnOf "poly_product" "poly_product" (defArgs spoly_product) (defBody spoly_product) (defScope spoly_product) .none kV9 dc9 pm9 an9 cd9 ct9), sl9⟩) (c9 : PySem.W.codeIn K cd9 "poly_product" = true) (k9 : PySem.W.keepIn K (.ref f9) = true)
    (a10 : PySem.W.nsIn K mainGlobals "poly_divided" = some (some (.ref f10))) (l10 : K.lookup f10 = some ⟨oc10, od10, .func (PySem.W.fnOf "poly_divided" "poly_divided" (defArgs spoly_divided) (defBody spoly_divided) (defScope spoly_divided) .none kV10 dc10 pm10 an10 cd10 ct10), sl10⟩) (c10 : PySem.W.codeIn K cd10 "poly_divided" = true) (k10 : PySem.W.keepIn K (.ref f10) = true)
    (a11 : PySem.W.nsIn K mainGlobals "monic" = some (some (.ref f11))) (l11 : K.lookup f11 = some ⟨oc11, od11, .func (PySem.W.fnOf "monic" "monic" (defArgs smonic) (defBody smonic) (defScope smonic) .none kV11 dc11 pm11 an11 cd11 ct11), sl11⟩) (c11 : PySem.W.codeIn K cd11 "monic" = true) (k11 : PySem.W.keepIn K (.ref f11) = true)
    (a12 : PySem.W.nsIn K mainGlobals "divisor" = some (some (.ref f12))) (l12 : K.lookup f12 = some ⟨oc12, od12, .func (PySem.W.fnOf "divisor" "divisor" (defArgs sdivisor) (defBody sdivisor) (defScope sdivisor) .none kV12 dc12 pm12 an12 cd12 ct12), sl12⟩) (c12 : PySem.W.codeIn K cd12 "divisor" = true) (k12 : PySem.W.keepIn K (.ref f12) = true)
    (a13 : PySem.W.nsIn K mainGlobals "packed" = some (some (.ref f13))) (l13 : K.lookup f13 = some ⟨oc13, od13, .func (PySem.W.fnOf "packed" "packed" (defArgs spacked) (defBody spacked) (defScope spacked) .none kV13 dc13 pm13 an13 cd13 ct13), sl13⟩) (c13 : PySem.W.codeIn K cd13 "packed" = true) (k13 : PySem.W.keepIn K (.ref f13) = true)
    (a14 : PySem.W.nsIn K mainGlobals "unpacked" = some (some (.ref f14))) (l14 : K.lookup f14 = some ⟨oc14, od14, .func (PySem.W.fnOf "unpacked" "unpacked" (defArgs sunpacked) (defBody sunpacked) (defScope sunpacked) .none kV14 dc14 pm14 an14 cd14 ct14), sl14⟩) (c14 : PySem.W.codeIn K cd14 "unpacked" = true) (k14 : PySem.W.keepIn K (.ref f14) = true)
    (a15 : PySem.W.nsIn K mainGlobals "high_powers" = some (some (.ref f15))) (l15 : K.lookup f15 = some ⟨oc15, od15, .func (PySem.W.fnOf "high_powers" "high_powers" (defArgs shigh_powers) (defBody shigh_powers) (defScope shigh_powers) .none kV15 dc15 pm15 an15 cd15 ct15), sl15⟩) (c15 : PySem.W.codeIn K cd15 "high_powers" = true) (k15 : PySem.W.keepIn K (.ref f15) = true)
    (a16 : PySem.W.nsIn K mainGlobals "half_power" = some (some (.ref f16))) (l16 : K.lookup f16 = some ⟨oc16, od16, .func (PySem.W.fnOf "half_power" "half_power" (defArgs shalf_power) (defBody shalf_power) (defScope shalf_power) .none kV16 dc16 pm16 an16 cd16 ct16), sl16⟩) (c16 : PySem.W.codeIn K cd16 "half_power" = true) (k16 : PySem.W.keepIn K (.ref f16) = true)
    (a17 : PySem.W.nsIn K mainGlobals "has_all_roots" = some (some (.ref f17))) (l17 : K.lookup f17 = some ⟨oc17, od17, .func (PySem.W.fnOf "has_all_roots" "has_all_roots" (defArgs shas_all_roots) (defBody shas_all_roots) (defScope shas_all_roots) .none kV17 dc17 pm17 an17 cd17 ct17), sl17⟩) (c17 : PySem.W.codeIn K cd17 "has_all_roots" = true) (k17 : PySem.W.keepIn K (.ref f17) = true)
    (a18 : PySem.W.nsIn K mainGlobals "halves_by" = some (some (.ref f18))) (l18 : K.lookup f18 = some ⟨oc18, od18, .func (PySem.W.fnOf "halves_by" "halves_by" (defArgs shalves_by) (defBody shalves_by) (defScope shalves_by) .none kV18 dc18 pm18 an18 cd18 ct18), sl18⟩) (c18 : PySem.W.codeIn K cd18 "halves_by" = true) (k18 : PySem.W.keepIn K (.ref f18) = true)
    (a19 : PySem.W.nsIn K mainGlobals "roots_of" = some (some (.ref f19))) (l19 : K.lookup f19 = some ⟨oc19, od19, .func (PySem.W.fnOf "roots_of" "roots_of" (defArgs sroots_of) (defBody sroots_of) (defScope sroots_of) .none kV19 dc19 pm19 an19 cd19 ct19), sl19⟩) (c19 : PySem.W.codeIn K cd19 "roots_of" = true) (k19 : PySem.W.keepIn K (.ref f19) = true)
    (a20 : PySem.W.nsIn K mainGlobals "roots" = some (some (.ref f20))) (l20 : K.lookup f20 = some ⟨oc20, od20, .func (PySem.W.fnOf "roots" "roots" (defArgs sroots) (defBody sroots) (defScope sroots) .none kV20 dc20 pm20 an20 cd20 ct20), sl20⟩) (c20 : PySem.W.codeIn K cd20 "roots" = true) (k20 : PySem.W.keepIn K (.ref f20) = true)
    (a21 : PySem.W.nsIn K mainGlobals "_law_taken" = some (some (.ref f21))) (l21 : K.lookup f21 = some ⟨oc21, od21, .func (PySem.W.fnOf "_law_taken" "_law_taken" (defArgs s_law_taken) (defBody s_law_taken) (defScope s_law_taken) .none kV21 dc21 pm21 an21 cd21 ct21), sl21⟩) (c21 : PySem.W.codeIn K cd21 "_law_taken" = true) (k21 : PySem.W.keepIn K (.ref f21) = true)
    (a22 : PySem.W.nsIn K mainGlobals "_law_prime" = some (some (.ref f22))) (l22 : K.lookup f22 = some ⟨oc22, od22, .func (PySem.W.fnOf "_law_prime" "_law_prime" (defArgs s_law_prime) (defBody s_law_prime) (defScope s_law_prime) .none kV22 dc22 pm22 an22 cd22 ct22), sl22⟩) (c22 : PySem.W.codeIn K cd22 "_law_prime" = true) (k22 : PySem.W.keepIn K (.ref f22) = true)
    (a23 : PySem.W.nsIn K mainGlobals "_law_pick" = some (some (.ref f23))) (l23 : K.lookup f23 = some ⟨oc23, od23, .func (PySem.W.fnOf "_law_pick" "_law_pick" (defArgs s_law_pick) (defBody s_law_pick) (defScope s_law_pick) .none kV23 dc23 pm23 an23 cd23 ct23), sl23⟩) (c23 : PySem.W.codeIn K cd23 "_law_pick" = true) (k23 : PySem.W.keepIn K (.ref f23) = true)
    (a24 : PySem.W.nsIn K mainGlobals "_law_from_roots" = some (some (.ref f24))) (l24 : K.lookup f24 = some ⟨oc24, od24, .func (PySem.W.fnOf "_law_from_roots" "_law_from_roots" (defArgs s_law_from_roots) (defBody s_law_from_roots) (defScope s_law_from_roots) .none kV24 dc24 pm24 an24 cd24 ct24), sl24⟩) (c24 : PySem.W.codeIn K cd24 "_law_from_roots" = true) (k24 : PySem.W.keepIn K (.ref f24) = true)
    (a25 : PySem.W.nsIn K mainGlobals "_law_order" = some (some (.ref f25))) (l25 : K.lookup f25 = some ⟨oc25, od25, .func (PySem.W.fnOf "_law_order" "_law_order" (defArgs s_law_order) (defBody s_law_order) (defScope s_law_order) .none kV25 dc25 pm25 an25 cd25 ct25), sl25⟩) (c25 : PySem.W.codeIn K cd25 "_law_order" = true) (k25 : PySem.W.keepIn K (.ref f25) = true)
    (a26 : PySem.W.nsIn K mainGlobals "_law_order_of" = some (some (.ref f26))) (l26 : K.lookup f26 = some ⟨oc26, od26, .func (PySem.W.fnOf "_law_order_of" "_law_order_of" (defArgs s_law_order_of) (defBody s_law_order_of) (defScope s_law_order_of) .none kV26 dc26 pm26 an26 cd26 ct26), sl26⟩) (c26 : PySem.W.codeIn K cd26 "_law_order_of" = true) (k26 : PySem.W.keepIn K (.ref f26) = true)
    (a27 : PySem.W.nsIn K mainGlobals "_law_alike" = some (some (.ref f27))) (l27 : K.lookup f27 = some ⟨oc27, od27, .func (PySem.W.fnOf "_law_alike" "_law_alike" (defArgs s_law_alike) (defBody s_law_alike) (defScope s_law_alike) .none kV27 dc27 pm27 an27 cd27 ct27), sl27⟩) (c27 : PySem.W.codeIn K cd27 "_law_alike" = true) (k27 : PySem.W.keepIn K (.ref f27) = true)
    (a28 : PySem.W.nsIn K mainGlobals "_law_power" = some (some (.ref f28))) (l28 : K.lookup f28 = some ⟨oc28, od28, .func (PySem.W.fnOf "_law_power" "_law_power" (defArgs s_law_power) (defBody s_law_power) (defScope s_law_power) .none kV28 dc28 pm28 an28 cd28 ct28), sl28⟩) (c28 : PySem.W.codeIn K cd28 "_law_power" = true) (k28 : PySem.W.keepIn K (.ref f28) = true)
    (a29 : PySem.W.nsIn K mainGlobals "_law_at" = some (some (.ref f29))) (l29 : K.lookup f29 = some ⟨oc29, od29, .func (PySem.W.fnOf "_law_at" "_law_at" (defArgs s_law_at) (defBody s_law_at) (defScope s_law_at) .none kV29 dc29 pm29 an29 cd29 ct29), sl29⟩) (c29 : PySem.W.codeIn K cd29 "_law_at" = true) (k29 : PySem.W.keepIn K (.ref f29) = true)
    (a30 : PySem.W.nsIn K mainGlobals "law" = some (some (.ref f30))) (l30 : K.lookup f30 = some ⟨oc30, od30, .func (PySem.W.fnOf "law" "law" (defArgs slaw) (defBody slaw) (defScope slaw) .none kV30 dc30 pm30 an30 cd30 ct30), sl30⟩) (c30 : PySem.W.codeIn K cd30 "law" = true) (k30 : PySem.W.keepIn K (.ref f30) = true)
    (i_PRIME : PySem.W.nsIn K mainGlobals "PRIME" = some (some (.int 2305843009213693951 t_PRIME)))
    (i_MOST_ROOTS : PySem.W.nsIn K mainGlobals "MOST_ROOTS" = some (some (.int 60 t_MOST_ROOTS)))
    (i_ROOM : PySem.W.nsIn K mainGlobals "ROOM" = some (some (.int 150 t_ROOM)))
    (i_ROOM_MASK : PySem.W.nsIn K mainGlobals "ROOM_MASK" = some (some (.int 1427247692705959881058285969449495136382746623 t_ROOM_MASK)))
    (z_len : PySem.W.nsIn K mainGlobals "len" = some none)
    (z_int : PySem.W.nsIn K mainGlobals "int" = some none)
    (z_range : PySem.W.nsIn K mainGlobals "range" = some none)
    (z_tuple : PySem.W.nsIn K mainGlobals "tuple" = some none)
    (z_list : PySem.W.nsIn K mainGlobals "list" = some none)
    (z_isinstance : PySem.W.nsIn K mainGlobals "isinstance" = some none)
    (z_zip : PySem.W.nsIn K mainGlobals "zip" = some none)
    (z_type : PySem.W.nsIn K mainGlobals "type" = some none)
    (z_str : PySem.W.nsIn K mainGlobals "str" = some none)
    (z_bool : PySem.W.nsIn K mainGlobals "bool" = some none)
    (z_all : PySem.W.nsIn K mainGlobals "all" = some none)
    (z_min : PySem.W.nsIn K mainGlobals "min" = some none)
    (z_max : PySem.W.nsIn K mainGlobals "max" = some none)
    (z_enumerate : PySem.W.nsIn K mainGlobals "enumerate" = some none)
    (z_reversed : PySem.W.nsIn K mainGlobals "reversed" = some none)
    (z_sorted : PySem.W.nsIn K mainGlobals "sorted" = some none)
    (z_set : PySem.W.nsIn K mainGlobals "set" = some none)
    : ∃ fd : FuncData, (∀ (s : Shared) (v : Value), BindsTo s fd ⟨[v], []⟩ [("script", v)]) ∧ ∀ base : Heap, K.In base → base.Ns mainGlobals mg → FnOk l.prog w K mg base CX0 7 fa fd ["script"] (spLaw K) := by
  have e := hfa.symm.trans (PySem.W.mg_of X G a30)
  cases e
  have D_is_between := dfn_mk (st := sis_between) (ps := pis_between) X G a1 l1 c1 k1 fun _ _ _ _ _ _ us hl => match us, hl with | [_, _, _], _ => rfl
  have D_is_number := dfn_mk (st := sis_number) (ps := pis_number) X G a2 l2 c2 k2 fun _ _ _ _ _ _ us hl => match us, hl with | [_], _ => rfl
  have D_is_numbers := dfn_mk (st := sis_numbers) (ps := pis_numbers) X G a3 l3 c3 k3 fun _ _ _ _ _ _ us hl => match us, hl with | [_, _], _ => rfl
  have D_is_poly := dfn_mk (st := sis_poly) (ps := pis_poly) X G a4 l4 c4 k4 fun _ _ _ _ _ _ us hl => match us, hl with | [_], _ => rfl
  have D_inverse := dfn_mk (st := sinverse) (ps := pinverse) X G a5 l5 c5 k5 fun _ _ _ _ _ _ us hl => match us, hl with | [_], _ => rfl
  have D_trimmed := dfn_mk (st := strimmed) (ps := ptrimmed) X G a6 l6 c6 k6 fun _ _ _ _ _ _ us hl => match us, hl with | [_], _ => rfl
  have D_poly_sum := dfn_mk (st := spoly_sum) (ps := ppoly_sum) X G a7 l7 c7 k7 fun _ _ _ _ _ _ us hl => match us, hl with | [_, _], _ => rfl
  have D_poly_scaled := dfn_mk (st := spoly_scaled) (ps := ppoly_scaled) X G a8 l8 c8 k8 fun _ _ _ _ _ _ us hl => match us, hl with | [_, _], _ => rfl
  have D_poly_product := dfn_mk (st := spoly_product) (ps := ppoly_product) X G a9 l9 c9 k9 fun _ _ _ _ _ _ us hl => match us, hl with | [_, _], _ => rfl
  have D_poly_divided := dfn_mk (st := spoly_divided) (ps := ppoly_divided) X G a10 l10 c10 k10 fun _ _ _ _ _ _ us hl => match us, hl with | [_, _], _ => rfl
  have D_monic := dfn_mk (st := smonic) (ps := pmonic) X G a11 l11 c11 k11 fun _ _ _ _ _ _ us hl => match us, hl with | [_], _ => rfl
  have D_divisor := dfn_mk (st := sdivisor) (ps := pdivisor) X G a12 l12 c12 k12 fun _ _ _ _ _ _ us hl => match us, hl with | [_, _], _ => rfl
  have D_packed := dfn_mk (st := spacked) (ps := ppacked) X G a13 l13 c13 k13 fun _ _ _ _ _ _ us hl => match us, hl with | [_], _ => rfl
  have D_unpacked := dfn_mk (st := sunpacked) (ps := punpacked) X G a14 l14 c14 k14 fun _ _ _ _ _ _ us hl => match us, hl with | [_, _], _ => rfl
  have D_high_powers := dfn_mk (st := shigh_powers) (ps := phigh_powers) X G a15 l15 c15 k15 fun _ _ _ _ _ _ us hl => match us, hl with | [_], _ => rfl
  have D_half_power := dfn_mk (st := shalf_power) (ps := phalf_power) X G a16 l16 c16 k16 fun _ _ _ _ _ _ us hl => match us, hl with | [_, _], _ => rfl
  have D_has_all_roots := dfn_mk (st := shas_all_roots) (ps := phas_all_roots) X G a17 l17 c17 k17 fun _ _ _ _ _ _ us hl => match us, hl with | [_, _], _ => rfl
  have D_halves_by := dfn_mk (st := shalves_by) (ps := phalves_by) X G a18 l18 c18 k18 fun _ _ _ _ _ _ us hl => match us, hl with | [_, _], _ => rfl
  have D_roots_of := dfn_mk (st := sroots_of) (ps := proots_of) X G a19 l19 c19 k19 fun _ _ _ _ _ _ us hl => match us, hl with | [_], _ => rfl
  have D_roots := dfn_mk (st := sroots) (ps := proots) X G a20 l20 c20 k20 fun _ _ _ _ _ _ us hl => match us, hl with | [_], _ => rfl
  have D__law_taken := dfn_mk (st := s_law_taken) (ps := p_law_taken) X G a21 l21 c21 k21 fun _ _ _ _ _ _ us hl => match us, hl with | [_, _], _ => rfl
  have D__law_prime := dfn_mk (st := s_law_prime) (ps := p_law_prime) X G a22 l22 c22 k22 fun _ _ _ _ _ _ us hl => match us, hl with | [], _ => rfl
  have D__law_pick := dfn_mk (st := s_law_pick) (ps := p_law_pick) X G a23 l23 c23 k23 fun _ _ _ _ _ _ us hl => match us, hl with | [_, _], _ => rfl
  have D__law_from_roots := dfn_mk (st := s_law_from_roots) (ps := p_law_from_roots) X G a24 l24 c24 k24 fun _ _ _ _ _ _ us hl => match us, hl with | [_], _ => rfl
  have D__law_order := dfn_mk (st := s_law_order) (ps := p_law_order) X G a25 l25 c25 k25 fun _ _ _ _ _ _ us hl => match us, hl with | [_, _], _ => rfl
  have D__law_order_of := dfn_mk (st := s_law_order_of) (ps := p_law_order_of) X G a26 l26 c26 k26 fun _ _ _ _ _ _ us hl => match us, hl with | [_, _], _ => rfl
  have D__law_alike := dfn_mk (st := s_law_alike) (ps := p_law_alike) X G a27 l27 c27 k27 fun _ _ _ _ _ _ us hl => match us, hl with | [_, _], _ => rfl
  have D__law_power := dfn_mk (st := s_law_power) (ps := p_law_power) X G a28 l28 c28 k28 fun _ _ _ _ _ _ us hl => match us, hl with | [_, _], _ => rfl
  have D__law_at := dfn_mk (st := s_law_at) (ps := p_law_at) X G a29 l29 c29 k29 fun _ _ _ _ _ _ us hl => match us, hl with | [_, _], _ => rfl
  have D_law := dfn_mk (st := slaw) (ps := plaw) X G a30 l30 c30 k30 fun _ _ _ _ _ _ us hl => match us, hl with | [_], _ => rfl
  have B : Bi mg := ⟨PySem.W.mg_none_of X G z_len, PySem.W.mg_none_of X G z_int, PySem.W.mg_none_of X G z_range, PySem.W.mg_none_of X G z_tuple, PySem.W.mg_none_of X G z_list, PySem.W.mg_none_of X G z_isinstance, PySem.W.mg_none_of X G z_zip, PySem.W.mg_none_of X G z_type, PySem.W.mg_none_of X G z_str, PySem.W.mg_none_of X G z_bool, PySem.W.mg_none_of X G z_all, PySem.W.mg_none_of X G z_min, PySem.W.mg_none_of X G z_max⟩
  have T : TP mg := ⟨⟨_, PySem.W.mg_of X G i_PRIME⟩, ⟨_, PySem.W.mg_of X G i_MOST_ROOTS⟩, PySem.W.mg_none_of X G z_enumerate, PySem.W.mg_none_of X G z_reversed, PySem.W.mg_none_of X G z_sorted⟩
  have TT : TK mg := ⟨⟨_, PySem.W.mg_of X G i_ROOM⟩, ⟨_, PySem.W.mg_of X G i_ROOM_MASK⟩⟩
  exact ⟨PySem.W.fnOf "law" "law" (defArgs slaw) (defBody slaw) (defScope slaw) .none kV30 dc30 pm30 an30 cd30 ct30, fun s v => .of_eq rfl, fun base _ _ => ok_law D_law B T (PySem.W.mg_none_of X G z_set) D__law_prime (ok_pr D__law_prime) D__law_taken (ok_taken D__law_taken B) D__law_pick (ok_pick D__law_pick B D__law_taken) D__law_order_of (ok_oof D__law_order_of B D__law_order (ok_order D__law_order B D__law_taken)) D__law_from_roots (ok_fr D__law_from_roots B D__law_prime) D__law_alike (ok_alike D__law_alike B 2 (by decide)) D_roots (ok_rts D_roots B T D_is_poly (ok_pol D_is_poly B T D_is_numbers D_is_number D_is_between) D_monic (ok_mon D_monic B T D_inverse D_poly_scaled) D_roots_of (ok_rof D_roots_of B T D_halves_by (ok_hvs D_halves_by B T D_divisor D_poly_sum D_poly_divided D_inverse D_poly_scaled D_trimmed D_monic) D_half_power (ok_hlf D_half_power B T TT D_packed D_unpacked D_high_powers D_trimmed) D_has_all_roots (ok_has D_has_all_roots B T D_poly_product D_poly_sum D_poly_divided D_inverse D_trimmed))) D__law_at (ok_at D__law_at B D__law_prime) D__law_power (ok_pw D__law_power B D__law_prime)⟩
end K07
open PySem PySem.W PyProof.Rows
set_option maxRecDepth 100000 in
set_option maxHeartbeats 0 in
theorem PySem.Challenge.cw_meetstores_k07_whole_roots_holds : PySem.Challenge.rw_meetstores_k07_whole_roots.Holds := by
  w_on; o_law; k_head; (case hw => w_witness2)
  k_fill
  refine L2.walk_of (l := PySem.Challenge.rw_meetstores_k07_whole_roots) (n := 63) (k := 7) (x := "script") (CX := fun _ => L2.CX0) (sp := fun w => K07.spLaw _) rfl (by decide) rfl ⟨rfl, by decide, by decide⟩ (fun w h Y => PySem.W.kIn_of Y) ?F (fun _ _ a ns hl _ hS => ⟨a, ns, rfl, hS, hl, fun _ => rfl⟩) (fun _ _ _ _ _ h => h)
  case F =>
    intro w mg fa h KX G hmg
    refine' K07.all_mk KX G hmg ?a1 ?l1 ?c1 ?k1 ?a2 ?l2 ?c2 ?k2 ?a3 ?l3 ?c3 ?k3 ?a4 ?l4 ?c4 ?k4 ?a5 ?l5 ?c5 ?k5 ?a6 ?l6 ?c6 ?k6 ?a7 ?l7 ?c7 ?k7 ?a8 ?l8 ?c8 ?k8 ?a9 ?l9 ?c9 ?k9 ?a10 ?l10 ?c10 ?k10 ?a11 ?l11 ?c11 ?k11 ?a12 ?l12 ?c12 ?k12 ?a13 ?l13 ?c13 ?k13 ?a14 ?l14 ?c14 ?k14 ?a15 ?l15 ?c15 ?k15 ?a16 ?l16 ?c16 ?k16 ?a17 ?l17 ?c17 ?k17 ?a18 ?l18 ?c18 ?k18 ?a19 ?l19 ?c19 ?k19 ?a20 ?l20 ?c20 ?k20 ?a21 ?l21 ?c21 ?k21 ?a22 ?l22 ?c22 ?k22 ?a23 ?l23 ?c23 ?k23 ?a24 ?l24 ?c24 ?k24 ?a25 ?l25 ?c25 ?k25 ?a26 ?l26 ?c26 ?k26 ?a27 ?l27 ?c27 ?k27 ?a28 ?l28 ?c28 ?k28 ?a29 ?l29 ?c29 ?k29 ?a30 ?l30 ?c30 ?k30 ?i_PRIME ?i_MOST_ROOTS ?i_ROOM ?i_ROOM_MASK ?z_len ?z_int ?z_range ?z_tuple ?z_list ?z_isinstance ?z_zip ?z_type ?z_str ?z_bool ?z_all ?z_min ?z_max ?z_enumerate ?z_reversed ?z_sorted ?z_set
    (case a1 => k_is)
    (case l1 => k_is)
    (case c1 => k_is)
    (case k1 => k_is)
    (case a2 => k_is)
    (case l2 => k_is)
    (case c2 => k_is)
    (case k2 => k_is)
    (case a3 => k_is)
    (case l3 => k_is)
    (case c3 => k_is)
    (case k3 => k_is)
    (case a4 => k_is)
    (case l4 => k_is)
    (case c4 => k_is)
    (case k4 => k_is)
    (case a5 => k_is)
    (case l5 => k_is)
    (case c5 => k_is)
    (case k5 => k_is)
    (case a6 => k_is)
    (case l6 => k_is)
    (case c6 => k_is)
    (case k6 => k_is)
    (case a7 => k_is)
    (case l7 => k_is)
    (case c7 => k_is)
    (case k7 => k_is)
    (case a8 => k_is)
    (case l8 => k_is)
    (case c8 => k_is)
    (case k8 => k_is)
    (case a9 => k_is)
    (case l9 => k_is)
    (case c9 => k_is)
    (case k9 => k_is)
    (case a10 => k_is)
    (case l10 => k_is)
    (case c10 => k_is)
    (case k10 => k_is)
    (case a11 => k_is)
    (case l11 => k_is)
    (case c11 => k_is)
    (case k11 => k_is)
    (case a12 => k_is)
    (case l12 => k_is)
    (case c12 => k_is)
    (case k12 => k_is)
    (case a13 => k_is)
    (case l13 => k_is)
    (case c13 => k_is)
    (case k13 => k_is)
    (case a14 => k_is)
    (case l14 => k_is)
    (case c14 => k_is)
    (case k14 => k_is)
    (case a15 => k_is)
    (case l15 => k_is)
    (case c15 => k_is)
    (case k15 => k_is)
    (case a16 => k_is)
    (case l16 => k_is)
    (case c16 => k_is)
    (case k16 => k_is)
    (case a17 => k_is)
    (case l17 => k_is)
    (case c17 => k_is)
    (case k17 => k_is)
    (case a18 => k_is)
    (case l18 => k_is)
    (case c18 => k_is)
    (case k18 => k_is)
    (case a19 => k_is)
    (case l19 => k_is)
    (case c19 => k_is)
    (case k19 => k_is)
    (case a20 => k_is)
    (case l20 => k_is)
    (case c20 => k_is)
    (case k20 => k_is)
    (case a21 => k_is)
    (case l21 => k_is)
    (case c21 => k_is)
    (case k21 => k_is)
    (case a22 => k_is)
    (case l22 => k_is)
    (case c22 => k_is)
    (case k22 => k_is)
    (case a23 => k_is)
    (case l23 => k_is)
    (case c23 => k_is)
    (case k23 => k_is)
    (case a24 => k_is)
    (case l24 => k_is)
    (case c24 => k_is)
    (case k24 => k_is)
    (case a25 => k_is)
    (case l25 => k_is)
    (case c25 => k_is)
    (case k25 => k_is)
    (case a26 => k_is)
    (case l26 => k_is)
    (case c26 => k_is)
    (case k26 => k_is)
    (case a27 => k_is)
    (case l27 => k_is)
    (case c27 => k_is)
    (case k27 => k_is)
    (case a28 => k_is)
    (case l28 => k_is)
    (case c28 => k_is)
    (case k28 => k_is)
    (case a29 => k_is)
    (case l29 => k_is)
    (case c29 => k_is)
    (case k29 => k_is)
    (case a30 => k_is)
    (case l30 => k_is)
    (case c30 => k_is)
    (case k30 => k_is)
    (case i_PRIME => k_is)
    (case i_MOST_ROOTS => k_is)
    (case i_ROOM => k_is)
    (case i_ROOM_MASK => k_is)
    (case z_len => k_is)
    (case z_int => k_is)
    (case z_range => k_is)
    (case z_tuple => k_is)
    (case z_list => k_is)
    (case z_isinstance => k_is)
    (case z_zip => k_is)
    (case z_type => k_is)
    (case z_str => k_is)
    (case z_bool => k_is)
    (case z_all => k_is)
    (case z_min => k_is)
    (case z_max => k_is)
    (case z_enumerate => k_is)
    (case z_reversed => k_is)
    (case z_sorted => k_is)
    (case z_set => k_is)
