import PyProof.Rows.All
import Wide.All
import OpenK.AllK
import Wide.FinOn
import HandS.ForMost
import HandS.IsInst
import HandS.Zip
import HandS.TupAny
import HandS.More
import HandS.Walk
import HandS.Conv
import HandS.ExcOwn
import HandS.ExcIs
import HandS.ExcField
import HandS.FStr
import KE.KExcSuper
import KE.KExcIs
import HandS.TryOnly
import HandS.TupMul
import KE.KTryMore
import HandS.List
import PyProof.ListStr
import HandS.CallLocal
import HandS.WordsExc
import HandS.Wide
import HandS.StrMore
import HandS.Text
import HandS.Iter
import HandS.Replace
import HandS.Style
import PySem.Challenge.RW_meetstores_k01_whole_texts_and_values
set_option Elab.async false
set_option linter.all false
set_option maxRecDepth 100000
set_option maxHeartbeats 4000000
/-! Cnt: counts as octets, and what is read of octets. -/
namespace Cnt
/-- the octets of a count -/
def cOct (n : Nat) : List Nat := if n < 128 then [n] else (128 + n % 128) :: cOct (n / 128)
termination_by n
decreasing_by omega
theorem cOct_lt {n : Nat} (h : n < 128) : cOct n = [n] := by
  rw [cOct, if_pos h]
theorem cOct_ge {n : Nat} (h : ¬ n < 128) : cOct n = (128 + n % 128) :: cOct (n / 128) := by
  rw [cOct, if_neg h]
theorem cOct_bt : ∀ (k n : Nat), n < k → ∀ o, o ∈ cOct n → o < 256
  | 0, _, h => absurd h (Nat.not_lt_zero _)
  | k + 1, n, h => by
    by_cases c : n < 128
    · rw [cOct_lt c]
      intro o ho
      rw [List.mem_singleton.mp ho]
      omega
    · rw [cOct_ge c]
      intro o ho
      rcases List.mem_cons.mp ho with rfl | ho
      · omega
      · exact cOct_bt k (n / 128) (by omega) o ho
theorem cOct_len : ∀ (k n : Nat), n < 128 ^ (k + 1) → (cOct n).length ≤ k + 1
  | 0, n, h => by
    rw [cOct_lt (by omega)]
    exact Nat.le_refl _
  | k + 1, n, h => by
    by_cases c : n < 128
    · rw [cOct_lt c, List.length_singleton]
      omega
    · rw [cOct_ge c, List.length_cons]
      have : n / 128 < 128 ^ (k + 1) := by
        rw [Nat.div_lt_iff_lt_mul (by decide)]
        rw [Nat.pow_succ] at h
        exact h
      have := cOct_len k (n / 128) this
      omega
theorem cOct_pos (n : Nat) : 0 < (cOct n).length := by
  by_cases c : n < 128
  · rw [cOct_lt c]; exact Nat.zero_lt_one
  · rw [cOct_ge c, List.length_cons]; omega
theorem cOct_last : ∀ (k n : Nat), n < k → ∃ l x, cOct n = l ++ [x] ∧ x < 128
  | 0, _, h => absurd h (Nat.not_lt_zero _)
  | k + 1, n, h => by
    by_cases c : n < 128
    · exact ⟨[], n, by rw [cOct_lt c]; rfl, c⟩
    · obtain ⟨l, x, e, hx⟩ := cOct_last k (n / 128) (by omega)
      exact ⟨(128 + n % 128) :: l, x, by rw [cOct_ge c, e]; rfl, hx⟩
/-- what is told of octets -/
inductive R where
  | done (n b : Nat)
  | short
  | wrong (p : Nat)
/-- from the group g on, with the number so far, so many groups left -/
def cRun (l : List Nat) (at_ : Nat) : Nat → Nat → Nat → R
  | g, _, 0 => .wrong (at_ + g - 1)
  | g, num, k + 1 => if l.length ≤ at_ + g then .short else
      if l.getD (at_ + g) 0 < 128 then (if l.getD (at_ + g) 0 = 0 ∧ 0 < g then .wrong (at_ + g) else .done (num + l.getD (at_ + g) 0 * 2 ^ (7 * g)) (at_ + g + 1))
      else cRun l at_ (g + 1) (num + (l.getD (at_ + g) 0 - 128) * 2 ^ (7 * g)) k
def cFrom (l : List Nat) (at_ : Nat) : R := cRun l at_ 0 0 9
theorem get_mid (a m b : List Nat) (x : Nat) : (a ++ (x :: m) ++ b).getD a.length 0 = x := by
  rw [List.append_assoc, List.getD_eq_getElem?_getD, List.getElem?_append_right (Nat.le_refl _), Nat.sub_self]
  rfl
theorem run_back (rest : List Nat) : ∀ (k n g num : Nat) (a : List Nat) (at_ : Nat), n < 128 ^ (k + 1) → (0 < g → 0 < n) → a.length = at_ + g →
    cRun (a ++ cOct n ++ rest) at_ g num (k + 1) = .done (num + n * 2 ^ (7 * g)) (at_ + g + (cOct n).length)
  | 0, n, g, num, a, at_, h, h0, ha => by
    have c : n < 128 := by omega
    rw [cOct_lt c]
    have e : (a ++ [n] ++ rest).getD (at_ + g) 0 = n := by rw [← ha]; exact get_mid a [] rest n
    rw [cRun, if_neg (by simp only [List.length_append, List.length_singleton]; omega), e, if_pos c, if_neg (by omega)]
    rfl
  | k + 1, n, g, num, a, at_, h, h0, ha => by
    by_cases c : n < 128
    · rw [cOct_lt c]
      have e : (a ++ [n] ++ rest).getD (at_ + g) 0 = n := by rw [← ha]; exact get_mid a [] rest n
      rw [cRun, if_neg (by simp only [List.length_append, List.length_singleton]; omega), e, if_pos c, if_neg (by omega)]
      rfl
    · rw [cOct_ge c]
      have e : (a ++ (128 + n % 128) :: cOct (n / 128) ++ rest).getD (at_ + g) 0 = 128 + n % 128 := by rw [← ha]; exact get_mid a _ rest _
      rw [cRun, if_neg (by simp only [List.length_append, List.length_cons]; omega), e, if_neg (by omega)]
      have h2 : n / 128 < 128 ^ (k + 1) := by
        rw [Nat.div_lt_iff_lt_mul (by decide)]
        rw [Nat.pow_succ] at h
        exact h
      have := run_back rest k (n / 128) (g + 1) (num + (128 + n % 128 - 128) * 2 ^ (7 * g)) (a ++ [128 + n % 128]) at_ h2 (fun _ => by omega) (by rw [List.length_append, ha]; rfl)
      have ea : a ++ [128 + n % 128] ++ cOct (n / 128) ++ rest = a ++ (128 + n % 128) :: cOct (n / 128) ++ rest := by simp
      rw [ea] at this
      rw [this]
      congr 1
      · have e7 : 7 * (g + 1) = 7 * g + 7 := by omega
        rw [e7, Nat.pow_add]
        have : n = 128 * (n / 128) + n % 128 := (Nat.div_add_mod n 128).symm
        have e2 : 128 + n % 128 - 128 = n % 128 := by omega
        rw [e2, Nat.add_assoc, ← Nat.mul_assoc, Nat.mul_comm (n / 128) (2 ^ (7 * g)), Nat.mul_assoc]
        rw [Nat.mul_comm (n % 128), ← Nat.mul_add, show n % 128 + n / 128 * 2 ^ 7 = n from by omega, Nat.mul_comm]
      · rw [List.length_cons]
        omega
theorem from_back {n : Nat} (a rest : List Nat) (h : n < 2 ^ 63) : cFrom (a ++ cOct n ++ rest) a.length = .done n (a.length + (cOct n).length) := by
  unfold cFrom
  rw [run_back rest 8 n 0 0 a a.length (by rw [show (128 : Nat) = 2 ^ 7 from rfl, ← Nat.pow_mul]; exact h) (fun h => absurd h (Nat.lt_irrefl _)) rfl]
  simp
/-- the law's groups -/
def digs (n m : Nat) : List Nat := (List.range m).map fun t => n / 128 ^ t % 128
theorem digs_len (n m : Nat) : (digs n m).length = m := by simp [digs]
theorem digs_succ (n m : Nat) : digs n (m + 1) = (n % 128) :: digs (n / 128) m := by
  unfold digs
  rw [List.range_succ_eq_map, List.map_cons, List.map_map]
  congr 1
  · simp
  · refine List.map_congr_left fun t _ => ?_
    show n / 128 ^ (t + 1) % 128 = n / 128 / 128 ^ t % 128
    rw [Nat.div_div_eq_div_mul, Nat.pow_succ, Nat.mul_comm]
theorem digs_end (n m : Nat) : digs n (m + 1) = digs n m ++ [n / 128 ^ m % 128] := by
  unfold digs
  rw [List.range_succ, List.map_append]
  rfl
theorem digs_oct : ∀ (m n : Nat), n < 128 ^ (m + 1) → (m = 0 ∨ 128 ^ m ≤ n) → (digs n m).map (· + 128) ++ [n / 128 ^ m % 128] = cOct n
  | 0, n, h, _ => by
    have c : n < 128 := by omega
    rw [cOct_lt c]
    simp [digs]
    omega
  | m + 1, n, h, h1 => by
    have h1 : 128 ^ (m + 1) ≤ n := by rcases h1 with h1 | h1; cases h1; exact h1
    have p : 0 < 128 ^ m := Nat.pow_pos (by decide)
    have c : ¬ n < 128 := by
      rw [Nat.pow_succ] at h1
      omega
    rw [cOct_ge c, digs_succ, List.map_cons, List.cons_append]
    have := digs_oct m (n / 128) (by rw [Nat.div_lt_iff_lt_mul (by decide)]; rw [Nat.pow_succ] at h; exact h) (.inr (by rw [Nat.le_div_iff_mul_le (by decide)]; rw [Nat.pow_succ] at h1; exact h1))
    rw [← this, Nat.add_comm 128]
    congr 3
    rw [Nat.div_div_eq_div_mul, Nat.pow_succ, Nat.mul_comm]
theorem digs_stay {n m : Nat} (h : n < 128 ^ (m + 1)) (z : n / 128 ^ m % 128 = 0) : n < 128 ^ m := by
  have p : 0 < 128 ^ m := Nat.pow_pos (by decide)
  have a : n / 128 ^ m < 128 := by
    rw [Nat.div_lt_iff_lt_mul p, Nat.mul_comm]
    rw [Nat.pow_succ] at h
    exact h
  rw [Nat.mod_eq_of_lt a] at z
  rcases Nat.lt_or_ge n (128 ^ m) with q | q
  · exact q
  · have := Nat.div_pos q p
    omega
theorem digs_stop {n m : Nat} (z : n / 128 ^ m % 128 ≠ 0) : 128 ^ m ≤ n := by
  rcases Nat.lt_or_ge n (128 ^ m) with q | q
  · rw [Nat.div_eq_of_lt q] at z
    exact absurd rfl z
  · exact q
end Cnt
namespace PySem
namespace WrX
open PySem.W PySem.Calls PyProof.Rows PySem.HandSPX
def iA (p1 p2 : Pos) : Arguments := { posonlyargs := [], args := [{ arg := "self", annotation := none, pos := p1 }, { arg := "place", annotation := none, pos := p2 }], vararg := none, kwonlyargs := [], kw_defaults := [], kwarg := none, defaults := [] }
def iB (tx : Str) (q1 q2 q3 q4 q5 q6 q7 q8 q9 r1 r2 r3 r4 : Pos) : List Stmt :=
  [.Expr (.Call (.Attribute (.Call (.Name "super" q1) [] [] q2) "__init__" q3) [.JoinedStr [.Constant (.str tx) 0 q4, .FormattedValue (.Name "place" q5) (-1) none q6] q7] [] q8) q9,
   .Assign [.Attribute (.Name "self" r1) "place" r2] (.Name "place" r3) r4]
def iS : Scope := { kind := .function, names := [(PySem.Str.ofString "self", .local), (PySem.Str.ofString "place", .local), (PySem.Str.ofString "__class__", .free), (PySem.Str.ofString "super", .globalImplicit)], isGenerator := false, isCoroutine := false, more := [] }
/-- what the written part says of the class at C, and of its __init__, at fI -/
structure WrTxt (P : Program) (K : Frag) (mg : Str → Option Value) (x : Str) (C fI : Addr) : Prop where
  gC : mg x = some (.ref C)
  cls : ∃ nm q N bs bm sn sub ab col dd k0 k1 k2 k3 k5, K.lookup C = some (excClassObj nm q C N bs bm true sn sub ab col dd k0 k1 k2 k3 k5 "ValueError.__new__") ∧ refsVE bm = true
  sa : findIn K (.ref C) "__setattr__" = some (some (.builtin "object.__setattr__"))
  ga : findIn K (.ref C) "__getattribute__" = some (some (.builtin "BaseException.__getattribute__"))
  gg : findIn K (.ref C) "__getattr__" = some none
  noN : findIn K (.ref C) "place" = some none
  iC : findIn K (.ref C) "__init__" = some (some (.ref fI))
  tC : typeIn K (.ref fI) = some (.type "function")
  kC : keepIn K (.ref C) = true
  exC : subIn K (.ref C) (.type "BaseException") = some true
  tyC : typeIn K (.ref C) = some (.type "type")
  hdC : hasDictIn K C = true
  su : ks_superIn K C C "__init__" = some (some (.builtin "ValueError.__init__"))
  opq : nsIn K cStatics "thirdparty.any" = some none
  msup : mg "super" = none
  top : (P.main.scope.names.lookup ("super" : Str)).isSome = false
  self : mroIn K C (.ref C) = some true
  inVE : subIn K (.ref C) (.type "ValueError") = some true
  fn : ∃ (oc : Value) (od : Option Addr) (q : Str) (doc pm : Value) (an : Option Addr) (cda cc : Addr) (ct : Value) (osl : Array (Option Value)) (tx : Str) (p1 p2 q1 q2 q3 q4 q5 q6 q7 q8 q9 r1 r2 r3 r4 : Pos)
    (ccl : Value) (cdd : Option Addr) (vs : Array Value) (ccs : Array (Option Value)) (file : Str) (tf : Tok) (cl : Value) (cld : Option Addr) (csl : Array (Option Value)),
    K.lookup fI = some ⟨oc, od, .func (ksFn "__init__" q (iA p1 p2) (iB tx q1 q2 q3 q4 q5 q6 q7 q8 q9 r1 r2 r3 r4) iS .none .none doc pm an (.ref cda) ct cc), osl⟩ ∧ codeIn K (.ref cda) q = true ∧
    K.lookup cda = some ⟨ccl, cdd, .fields vs, ccs⟩ ∧ vs[2]? = some (.str file tf) ∧ ((P.main.file : Str) == file) = true ∧ K.lookup cc = some ⟨cl, cld, .cell (some (.ref C)), csl⟩ ∧ tx.length ≤ 1000 ∧ (q3.endLine == q8.line) = true
/-- what __init__ leaves of a fresh exception at x -/
structure InitEnd (h h' : Heap) (x C dx t1 : Addr) (v : Value) : Prop where
  keep : ∀ b o, b ≠ x → h.get? b = some o → h'.get? b = some o
  obj : h'.get? x = some { cls := .ref C, dict := some dx, data := .fields #[.ref t1, .none, .none, .none, .bool false, .none] }
  dbig : h.objs.size ≤ dx
  dne : dx ≠ x
  ns : h'.Ns1 dx (fun y => if y = "place" then some v else none)
section
variable {prog : Program} {w : World} {A : Around} {E : Value → Shared → Prop} {R : Result → Shared → Prop} {s : Shared} {K : Frag} {mg : Str → Option Value} {xn : Str} {C fI : Addr}
theorem at_mcall {M : Model} {c : Code} {env : Env} {o : Expr} {name : Str} {apos pos : Pos} {args : List Expr} {Q : Value → Shared → Prop} (hline : (apos.endLine == pos.line) = true) (hform : methodCallForm (args.length + ([] : List Keyword).length) (backTo pos (starEach args env)) (backToKw pos (keywordEach [] env)) = true)
    (h : wpAt M A c (attributeBase o name env (eval o env)) (fun ov s₁ => wpAny M A (getMethod ov name (do return (← importBound o env).getD true)) (fun fx s₂ => wpAny M A (callWith pos fx.1 fx.2 (backTo pos (starEach args env)) []) Q E s₂) E s₁) E s) :
    wpAt M A c (eval (.Call (.Attribute o name apos) args [] pos) env) Q E s := by
  have hpos : methodCallPos true o env apos pos = pure pos := by unfold methodCallPos; simp [hline]
  rw [arm_eval_Call]
  refine wpAt_bind (wpAt_mono h (fun ov s₁ h₁ => wpAt_of_wpAny (wpAny_bind (wpAny_standAt ?_))) fun _ _ x => x)
  unfold methodCall
  rw [hform, hpos]
  refine wpAny_bind (wpAny_holding (wpAny_mono h₁ (fun fx s₂ h₂ => ?_) fun _ _ x => x))
  exact wpAny_bind (wpAny_pure h₂)
/-- ValueError.__init__ of the bound wrapper -/
theorem call_mw {u e t0 : Addr} {rest : List Value} {Q : Value → Shared → Prop} {h : Heap} {g : Array GenState} {d : Drawn} {t : Nat} {os : OsState}
    {nm q : Str} {N : Addr} {bs bm : List Value} {sn : List Str} {sub : List Value} {ab : Bool} {col : Option Bool} {dd : Option Addr} {k0 k1 k2 k3 k5 : Option Value}
    (hC : h.get? C = some (excClassObj nm q C N bs bm true sn sub ab col dd k0 k1 k2 k3 k5 "ValueError.__new__")) (he : h.get? e = some (excO C t0)) (hu : h.get? u = some (kxs_mw "ValueError.__init__" e)) (hrest : rest.length ≤ sizeLine)
    (hq : ∀ h' t1, (∀ b o, b ≠ e → h.get? b = some o → h'.get? b = some o) → h'.get? e = some (excO C t1) → Q .none ⟨h', g, d, t, os⟩) :
    wpAny (model prog w) A (call (.ref u) rest) Q E ⟨h, g, d, t, os⟩ := by
  refine wpAny_call (codeAny_of_tree ?_)
  show wpAny _ A.in1 (callAny (.ref u) ⟨rest, []⟩) _ _ _
  simp only [callAny]
  refine wpAny_bind (wpAny_load hu ?_)
  simp only [kxs_mw, show (Value.type "method-wrapper" == Value.type "method" || Value.type "method-wrapper" == Value.type "builtin_function_or_method" || Value.type "method-wrapper" == Value.type "method-wrapper") = true by decide, if_true]
  refine W.KFB.if_so (by decide) ?_
  refine wpAny_bind (check_bound_init F.excBase_ValueError.toExcCallFacts hC he rfl ?_)
  refine wpAny_bind (wpAny_pure (wpAny_pure ?_))
  refine ⟨plainId_quiet F.excBase_ValueError.init.plain _, codeAny_builtin F.excBase_ValueError.initEntry ?_⟩
  rw [Around.under_plainId F.excBase_ValueError.init.plain _]
  wp_walk
  refine hq _ h.objs.size (fun b o hb ho => ?_) ?_
  · rw [Heap.get?_update_other _ _ (Ne.symm hb)]
    exact Heap.get?_push_of_some _ ho
  · rw [Heap.get?_update_self _ (Heap.get?_push_of_some _ he) rfl]
    rfl

/-- __init__(self, place) of an int -/
theorem wrong_init (T : WrTxt prog K mg xn C fI) {x t0 : Addr} {n : Int} {tn : Tok} (X : K.In s.heap) (G : s.heap.Ns mainGlobals mg) (B : ∃ mb, s.heap.Ns builtinsNs mb ∧ ∀ x : Str, x ≠ "__name__" → mb x = bootBuiltins x)
    (hlim : s.heap.NoLimit) (hx : s.heap.get? x = some (excO C t0)) (hnx : K.lookup x = none) (hn : n.natAbs.log2 < 1920) (hroom : A.depth < recursionLimit)
    (hq : ∀ h' tk dx t1, InitEnd s.heap h' x C dx t1 (.int n tn) → R (.ok (.ret .none)) { s with heap := h', toks := tk }) :
    codeAny (model prog w) A (.call (.ref fI) ⟨[.ref x, .int n tn], []⟩) R s := by
  obtain ⟨oc, od, q, doc, pm, an, cda, cc, ct, osl, tx, p1, p2, q1, q2, q3, q4, q5, q6, q7, q8, q9, r1, r2, r3, r4, ccl, cdd, vs, ccs, file, tf, cl, cld, csl, ho, hcd, hcda, hvs, hfile, hcc, htx, hline⟩ := T.fn
  obtain ⟨nm, qn, N, bs, bm, sn, sub, ab, col, dd, k0, k1, k2, k3, k5, hC, hbm⟩ := T.cls
  have hcl : clsIn K C = some { name := nm, bases := bs, mro := .ref C :: bm, ns := N, qualname := qn, hasDict := true, slotNames := sn, subclasses := sub, abstract := ab, collection := col, hasDel := false } := by unfold clsIn; rw [hC] <;> rfl
  have I0 : InstAt s.heap x (excO C t0) C none := ⟨hx, rfl, rfl, trivial⟩
  have hxC : x ≠ C := ks_ne X I0 hcl
  refine ks_codeAny_call_defAt (fd := ksFn "__init__" q (iA p1 p2) (iB tx q1 q2 q3 q4 q5 q6 q7 q8 q9 r1 r2 r3 r4) iS .none .none doc pm an (.ref cda) ct cc) (body := iB tx q1 q2 q3 q4 q5 q6 q7 q8 q9 r1 r2 r3 r4) (binds := [("self", .ref x), ("place", .int n tn)])
    hroom (X _ _ ho) rfl hlim (codeRec_of X hcd) rfl (BindsTo.of_eq rfl) (by show ∀ x ∈ iS.names, x.2 ≠ .cell; decide) (locs rfl) (fun h₀ hns k₀ => ?_) rfl rfl rfl
  obtain ⟨hp, g, d, t, os⟩ := s
  have X₀ : K.In h₀ := X.keeps k₀
  have hx₀ := k₀ _ _ hx
  have hxL : hp.objs.size ≠ x := Nat.ne_of_gt (Heap.lt_size hx)
  -- super().__init__(f'..')
  refine ks_wpAt_execs_cons (ks_wpAt_Expr_any ?_)
  refine at_mcall hline rfl ?_
  refine ks_wpAt_super_base (env := callEnv (ksFn "__init__" q (iA p1 p2) (iB tx q1 q2 q3 q4 q5 q6 q7 q8 q9 r1 r2 r3 r4) iS .none .none doc pm an (.ref cda) ct cc) hp.objs.size fI) rfl rfl (by decide) rfl (X₀ _ _ ho) rfl rfl rfl (X₀ _ _ hcda) rfl hvs hfile T.top ?_
  obtain ⟨mb, hb, hmb⟩ := B
  refine ks_loadName_global rfl rfl (loadGlobal_builtin (v := .type "super") (Heap.Ns.keeps G k₀) T.msup (Heap.Ns.keeps hb k₀) ((hmb _ (by decide +kernel)).trans (by first | rfl | kernel_rfl)) ⟨rfl, ?_⟩)
  refine wpAny_loadName_free rfl rfl rfl ⟨_, X₀ _ _ hcc, rfl⟩ ?_
  refine wpAny_loadName_local rfl rfl hns (by first | rfl | with_unfolding_all rfl | kernel_rfl) ?_
  refine ks_wpAny_isType_cls (X₀ _ _ hC) rfl ⟨rfl, ?_⟩
  refine ks_wpAny_call_super (X₀ _ _ hC) rfl hx₀ rfl (fun c z => by cases z) (looks_mroIn X₀ T.self) (fun h₁ hso k₁ => ?_)
  have X₁ : K.In h₁ := X₀.keeps k₁
  have hx₁ := k₁ _ _ hx₀
  have hC₁ := X₁ _ _ hC
  have I1 : InstAt h₁ x (excO C t0) C none := ⟨hx₁, rfl, rfl, trivial⟩
  have hI : Looks (model prog w) h₁ (isInstance (.ref x) (.type "ValueError")) true := I1.type.andThen (looks_subIn X₁ T.inVE)
  have hm := T.su
  unfold ks_superIn at hm
  rw [hcl] at hm
  refine kxs_getMethod kxs_ValueError (d := d) (g := g) (os := os) hso (looks_opaque X₁ T.opq) (l₀ := .ref C :: bm) (fun A Q E s k q => wpAny_bind ((looks_clsIn X₁ hcl) A _ E s k (wpAny_pure q))) rfl X₁ hm hI hxC (by decide) ?_
  have hu : (h₁.push (kxs_mw "ValueError.__init__" x)).get? h₁.objs.size = some (kxs_mw "ValueError.__init__" x) := Heap.get?_push_at rfl rfl
  have k₂ : ∀ b o, h₁.get? b = some o → (h₁.push (kxs_mw "ValueError.__init__" x)).get? b = some o := fun b o e => Heap.get?_push_of_some _ e
  refine kxs_callWith (i := "ValueError.__init__") (x := x) rfl ?_
  refine evalArgs_plain (Calls.spliced_cons ?_)
  have hns₂ := (hns.keeps k₁).keeps k₂
  have hi : (Str.ofString (toString n)).length ≤ 1921 := by
    have e := int_text_length_le (k := 1920) (by decide) hn
    rw [ofString_length]
    exact e
  show wpAny _ _ (eval (.JoinedStr [.Constant (.str tx) 0 q4, .FormattedValue (.Name "place" q5) (-1) none q6] q7) _) _ _ _
  refine wpAny_JoinedStr ?_
  refine Calls.Constant_str ⟨tx, _, rfl, ?_, ?_⟩
  · rw [Str.length_append, sizeLine_eq]
    have : Str.empty.length = 0 := rfl
    omega
  refine wpAny_FormattedValue_plain (wpAny_Name (wpAny_loadName_local rfl rfl hns₂ (by first | rfl | with_unfolding_all rfl | kernel_rfl) (wpAny_formatField_int hn ⟨toString n, _, rfl, ?_, ?_⟩)) (by decide))
  · rw [Str.length_append, Str.length_append, sizeLine_eq]
    have : Str.empty.length = 0 := rfl
    omega
  refine ⟨?_, ?_⟩
  · rw [Str.length_append, Str.length_append, sizeLine_eq]
    have : Str.empty.length = 0 := rfl
    omega
  refine Calls.spliced_nil ?_
  show KxsAt _ _ _ _ ∧ wpAny _ _ (call _ _) _ _ _
  refine ⟨hu, ?_⟩
  refine call_mw (k₂ _ _ hC₁) (k₂ _ _ hx₁) hu (by show 1 ≤ sizeLine; rw [sizeLine_eq]; omega) (fun h₃ t1 k₃ hx₃ => ?_)
  have kc : ∀ b o, hp.get? b = some o → b ≠ x → h₃.get? b = some o := fun b o e n => k₃ b o n (k₂ b o (k₁ b o (k₀ b o e)))
  have X₃ : K.In h₃ := fun a o e => kc a o (X _ _ e) (fun z => by rw [z, hnx] at e; cases e)
  have hns₃ : h₃.Ns hp.objs.size _ := hns₂.at fun o e => k₃ _ o hxL e
  -- self.place = place
  show wpAt _ _ _ (execs _ _) _ _ _
  refine wpAt_of_wpAny ?_
  refine wpAny_execs_cons (plainObj_wpAny_Assign_Attribute ?_)
  refine wpAny_Name (wpAny_loadName_local rfl rfl hns₃ (by first | rfl | with_unfolding_all rfl | kernel_rfl) ?_) (by decide)
  refine wpAny_Name (wpAny_loadName_local rfl rfl hns₃ (by first | rfl | with_unfolding_all rfl | kernel_rfl) ?_) (by decide)
  refine set_plain X₃ (ox := excO C t1) (od := none) ⟨hx₃, rfl, rfl, trivial⟩ T.sa ?_
  refine exc_osa X₃ hx₃ hcl (show refsVE (.ref C :: bm) = true from hbm) rfl T.noN (fun h₄ tk₄ dx k₄ dn dne hx₄ hn₄ => ?_)
  show wpAny _ _ (execs _ _) _ _ _
  refine wpAny_execs_nil (hq h₄ tk₄ dx t1 ⟨fun b o hb e => k₄ b o hb (kc b o e hb), hx₄, ?_, dne, hn₄⟩)
  obtain ⟨oL, _, _, hoL, _⟩ := hns₃
  exact Nat.le_trans (Nat.le_of_lt (Heap.lt_size hoL)) dn

/-- a made error -/
structure OwnMade (h h' : Heap) (e C d : Addr) (v : Value) : Prop where
  keep : ∀ b o, h.get? b = some o → h'.get? b = some o
  new : h.objs.size ≤ e
  obj : ∃ oe vs, h'.get? e = some oe ∧ oe.cls = .ref C ∧ oe.dict = some d ∧ oe.data = .fields vs ∧ vs[1]? = some .none
  dbig : h.objs.size ≤ d
  dne : d ≠ e
  ns : h'.Ns1 d (fun y => if y = "place" then some v else none)
theorem wrong_made (T : WrTxt prog K mg xn C fI) {n : Int} {tn : Tok} (X : K.In s.heap) (G : s.heap.Ns mainGlobals mg) (B : ∃ mb, s.heap.Ns builtinsNs mb ∧ ∀ x : Str, x ≠ "__name__" → mb x = bootBuiltins x) (hlim : s.heap.NoLimit) (hn : n.natAbs.log2 < 1920) (hroom : A.depth + 1 < recursionLimit)
    (hq : ∀ h' tk e d, OwnMade s.heap h' e C d (.int n tn) → R (.ok (.ret (.ref e))) { s with heap := h', toks := tk }) :
    codeAny (model prog w) A (.call (.ref C) ⟨[.int n tn], []⟩) R s := by
  obtain ⟨nm, q, N, bs, bm, sn, sub, ab, col, dd, k0, k1, k2, k3, k5, hC, hbm⟩ := T.cls
  obtain ⟨hp, g, dr, tk, os⟩ := s
  have k : ∀ b o, hp.get? b = some o → ((hp.push (kdv_tup [.int n tn])).push (excO C hp.objs.size)).get? b = some o := fun b o e => Heap.get?_push_of_some _ (Heap.get?_push_of_some _ e)
  have hget : ((hp.push (kdv_tup [.int n tn])).push (excO C hp.objs.size)).get? (hp.objs.size + 1) = some (excO C hp.objs.size) := by heap_get
  have hnx : K.lookup (hp.objs.size + 1) = none := by
    cases e : K.lookup (hp.objs.size + 1) with
    | none => rfl
    | some o =>
      have z : hp.get? (hp.objs.size + 1) = some o := X _ _ e
      exact absurd (Nat.lt_of_succ_lt (Heap.lt_size z)) (Nat.lt_irrefl _)
  refine call_own F.excBase_ValueError (fun X => refsVE_contains X bm hbm) (X _ _ hC) (looks_findIn X T.iC) (fun self => bind_fn X self T.tC) (by show 1 ≤ sizeLine; rw [sizeLine_eq]; omega) ?_
  obtain ⟨mb, hb, hmb⟩ := B
  refine wrong_init (s := ⟨(hp.push (kdv_tup [.int n tn])).push (excO C hp.objs.size), g, dr, tk, os⟩) T (X.keeps k) (G.keeps k) ⟨mb, hb.keeps k, hmb⟩ (hlim.keeps k) hget hnx hn ?_ fun h' tk' dx t1 ⟨k', hx, dn, dne, hns⟩ => ?_
  · show A.depth + 1 < recursionLimit
    exact hroom
  · have old : ∀ b o, hp.get? b = some o → h'.get? b = some o := fun b o e => k' b o (Nat.ne_of_lt (Nat.lt_succ_of_lt (Heap.lt_size e))) (k b o e)
    have z : hp.objs.size + 1 + 1 ≤ dx := by
      first
        | (simpa only [Heap.size_push] using dn)
        | exact dn
        | (have q := dn; rw [Heap.size_push, Heap.size_push] at q; exact q)
    exact ⟨rfl, hq h' tk' (hp.objs.size + 1) dx ⟨old, Nat.le_succ _, ⟨_, _, hx, rfl, rfl, rfl, rfl⟩, Nat.le_trans (Nat.le_trans (Nat.le_succ _) (Nat.le_succ _)) z, dne, hns⟩⟩
end
end WrX
end PySem
namespace L2
open PySem PySem.Spec PyProof.Rows
theorem relO_wr {v : V} {v' : Value} (r : RelV v v') (f : Str) : RelO (List.lookup f [(("place" : Str), v)]) (if f = "place" then some v' else none) := by
  by_cases hw : f = "place"
  · subst hw
    rw [if_pos rfl]
    have q : List.lookup ("place" : Str) [(("place" : Str), v)] = some v := by simp [List.lookup]
    rw [q]
    exact r
  · rw [if_neg hw]
    have qw : (f == ("place" : Str)) = false := by simpa using hw
    have q2 : List.lookup f [(("place" : Str), v)] = none := by simp [List.lookup, qw]
    rw [q2]
    trivial
section
variable {X : Cx} {xn : Str} {C fI : Addr}
/-- Low(e) -/
def tMkWr (C : Addr) (ta : TA) : St → Hp → XK → Prop := fun σ H Q => ta σ H fun vs H1 => ∃ n : Int, vs = [.int n] ∧ n.natAbs.log2 < 1920 ∧ ∀ d, H1 d = none → Q (.ref C) (some d) (upd H1 d (.xd [(("place" : Str), .int n)]))
theorem pmk_wr {a : Expr} {ta : TA} {p pos : Pos} {k : Nat} (T : PySem.WrX.WrTxt X.prog X.K X.mg xn C fI) (hr : Room k X.A) (ha : PA X [a] ta) (hg : Gl X xn := by rfl) (hdb : (xn == ("__debug__" : Str)) = false := by decide)
    (he : starEach (a :: []) X.env = (false, eval a X.env) :: starEach [] X.env := by rfl) (hpl : (backTo pos (starEach [] X.env)).any (·.1) = false := by rfl) :
    PMk X (.Call (.Name xn p) [a] [] pos) (tMkWr C ta) := by
  intro pins s σ H Q I h
  refine wpAny_Call_Name_kw (ld_glob I hg T.gC ?_ hdb)
  refine PySem.W.callWith_K (h₀ := X.base) I.ok.mod.kin T.kC (thn (ha.run pos pins s σ H _ I h) fun us s1 hh => ?_) he hpl
  obtain ⟨vs, H1, I1, r1, n, ev, hn, q1⟩ := hh
  subst ev
  refine ⟨I1.kIn, ?_⟩
  cases r1 with
  | cons rv rn =>
    rename_i v' us'
    cases rn
    obtain ⟨tn, rfl⟩ := rv
    show wpAny _ _ (call (.ref C) [.int n tn]) _ _ _
    have hlim := I1.nolimit
    obtain ⟨hp, g, dr, tk, os⟩ := s1
    refine wpAny_call (PySem.WrX.wrong_made T I1.kIn (I1.mod.glob.keeps I1.bk) (by obtain ⟨mb, hb, hmb⟩ := I1.mod.blt; exact ⟨mb, hb.keeps I1.bk, hmb⟩) hlim hn (by have := hr.dp; omega) fun h' tk' e d M => ?_)
    show MkP X pins σ Q (.ref e) ⟨h', g, dr, tk', os⟩
    obtain ⟨oe, fv, hoe, hc, hd, hdat, h1⟩ := M.obj
    have hns := M.ns
    obtain ⟨G', g1, g2⟩ := restrict h' fun b => decide (b ≠ e)
    have gk : ∀ b, b ≠ e → G'.get? b = h'.get? b := fun b hb => g1 b (decide_eq_true hb)
    have ge : G'.get? e = none := g2 e (by simp)
    have old : ∀ b o, hp.get? b = some o → G'.get? b = some o := fun b o q => (gk b (Nat.ne_of_lt (Nat.lt_of_lt_of_le (Heap.lt_size q) M.new))).trans (M.keep b o q)
    have ob : ObjOk X.prog X.w (upd H1 d (.xd [(("place" : Str), .int n)])) G' d (.xd [(("place" : Str), .int n)]) :=
      ⟨_, hns.at (fun o q => (gk d M.dne).trans q), fun f => relO_wr (v := .int n) ⟨tn, rfl⟩ f⟩
    have J : Inv X pins σ (upd H1 d (.xd [(("place" : Str), .int n)])) ⟨G', g, dr, tk', os⟩ := I1.laid (t' := tk') old M.dbig ob
    refine ⟨e, oe, fv, ⟨G', g, dr, tk', os⟩, _, .ref C, some d, rfl, J, fun b o q => ?_, ge, hoe, ⟨hc, hd⟩, hdat, h1, ?_, rfl, I1.bare, raises_own T.exC T.tyC, q1 d (I1.hok.fresh M.dbig)⟩
    · by_cases hb : b = e
      · have q' : G'.get? b = some o := q
        rw [hb, ge] at q'; cases q'
      · exact (gk b hb).symm.trans q
    · rw [upd_ne (Ne.symm M.dne)]
      exact I1.hok.fresh M.new
/-- raise Low(e) -/
def tRaiseWr (C : Addr) (W : WX) (ta : TA) : TS := fun _ σ H => tMkWr C ta σ H fun cls d H' => W cls d σ H'
theorem ps_raiseWr {a : Expr} {ta : TA} {W : WX} {p pos pos2 : Pos} {k : Nat} (hc : X.calm = true) (T : PySem.WrX.WrTxt X.prog X.K X.mg xn C fI) (hr : Room k X.A) (tk : Takes X W) (ha : PA X [a] ta) (hg : Gl X xn := by rfl) (hdb : (xn == ("__debug__" : Str)) = false := by decide)
    (he : starEach (a :: []) X.env = (false, eval a X.env) :: starEach [] X.env := by rfl) (hpl : (backTo pos (starEach [] X.env)).any (·.1) = false := by rfl) :
    PS X (.Raise (some (.Call (.Name xn p) [a] [] pos)) none pos2) (tRaiseWr C W ta) := ps_raise hc tk (pmk_wr T hr ha hg hdb he hpl)
/-- low.by, low the exception that the suite holds (at a; its class cls, its dict d) -/
def tByWr (C : Addr) (a : Addr) (cls : Value) (d : Option Addr) (te : TE) : TE := fun σ H Q => te σ H fun x H1 => x = .ref a ∧ cls = .ref C ∧ ∃ (dd : Addr) (v : V), d = some dd ∧ H1 dd = some (.xd [(("place" : Str), v)]) ∧ Q v H1
theorem pe_byWr {a : Addr} {oe : Obj} {cls : Value} {d : Option Addr} {pn : List (Addr × Obj)} {e : Expr} {te : TE} {pos : Pos} (T : PySem.WrX.WrTxt X.prog X.K X.mg xn C fI) (hz : Zc cls d oe) (hf : ∃ vs, oe.data = .fields vs) (he : PE (X.suite a ((a, oe) :: pn)) e te)
    (hb : attributeBase e "place" X.env (eval e X.env) = eval e X.env := by rfl) :
    PE (X.suite a ((a, oe) :: pn)) (.Attribute e "place" pos) (tByWr C a cls d te) := by
  refine ⟨fun pins s σ H Q I h => ?_⟩
  refine attr_of hb (thn (he.run pins s σ H _ I h) fun u s1 hh => ?_)
  obtain ⟨x, H1, I1, rx, ex, ec, dd, v, ed, ea, q⟩ := hh
  subst ex
  obtain rfl : u = Value.ref a := rx
  subst ec
  subst ed
  obtain ⟨ha, _⟩ := I1.pin (a, oe) (List.mem_append_left _ List.mem_cons_self)
  obtain ⟨vs, hd⟩ := hf
  have hx : ObjOk X.prog X.w H1 s1.heap dd (.xd [(("place" : Str), v)]) := I1.hok dd _ ea
  obtain ⟨mA, hns, hr⟩ := hx
  obtain ⟨od, ho, hl⟩ := lookIn_ns hns
  have l : List.lookup ("place" : Str) [(("place" : Str), v)] = some v := by simp [List.lookup]
  obtain ⟨u, hu, ru⟩ := RelO.some_of (v := v) (o := mA "place") (by rw [← l]; exact hr "place")
  have J : PySem.W.InstAt s1.heap a oe C (some od) := ⟨ha, hz.1, by unfold PySem.W.notCls; rw [hd] <;> rfl, by rw [hz.2]; exact ho⟩
  exact HandSPX.exc_get I1.kIn J T.ga T.gg T.exC (PySem.W.findObj_own T.hdC T.noN rfl (by rw [hl, hu])) (handed_of ru) ⟨v, H1, I1.tok _, ru, q⟩
end
end L2

namespace L2
open PySem PySem.Spec PyProof.Rows
/-- isinstance(e, c), e the error that the suite holds: its class at D, its dict d -/
def rIsX (K : PySem.W.Frag) (a : Addr) (cls : Value) (d : Option Addr) : List V → Hp → VK → Prop := fun xs H Q => ∃ (D : Addr) (c : V) (cv : Value) (b : Bool), xs = [.ref a, c] ∧ cls = .ref D ∧ ExcC K D ∧ (d = none ∨ ∃ dd fs, d = some dd ∧ H dd = some (.xd fs)) ∧ (∀ u, RelV c u → u = cv) ∧ PySem.W.kitOne K (.ref D) cv = some b ∧ Q (.bl b) H
theorem call_isX {X : Cx} {a : Addr} {cls : Value} {d : Option Addr} {oe : Obj} {pn : List (Addr × Obj)} (hz : Zc cls d oe) (hf : ∃ vs, oe.data = .fields vs) : CallR (X.suite a ((a, oe) :: pn)) (.builtin "isinstance") (rIsX X.K a cls d) := by
  intro pins s σ H xs us Q I r h
  obtain ⟨D, c, cv, b, rfl, rfl, C, hd, hcv, e, q⟩ := h
  cases r with
  | cons rx rr =>
    cases rr with
    | cons rt rr =>
      cases rr
      cases rx
      have ec := hcv _ rt
      subst ec
      obtain ⟨hget, _⟩ := I.pin (a, oe) (List.mem_append.mpr (.inl List.mem_cons_self))
      obtain ⟨vs, hv⟩ := hf
      have J : ∃ od, PySem.W.InstAt s.heap a oe D od := by
        rcases hd with rfl | ⟨dd, fs, rfl, hx⟩
        · obtain ⟨oc, od, oda, osl⟩ := oe
          obtain ⟨h1, h2⟩ := hz
          dsimp only at h1 h2 hv
          subst h1 h2 hv
          exact ⟨none, hget, rfl, rfl, trivial⟩
        · have hx : ObjOk X.prog X.w H s.heap dd (.xd fs) := I.hok dd _ hx
          obtain ⟨mA, hns, hr⟩ := hx
          obtain ⟨od, ho, hl⟩ := lookIn_ns hns
          exact ⟨some od, hget, hz.1, by unfold PySem.W.notCls; rw [hv] <;> rfl, by rw [hz.2]; exact ho⟩
      obtain ⟨od, J⟩ := J
      exact PySem.W.kia_one (PySem.W.kitx_exc (by obtain ⟨cd, hc, _⟩ := PySem.W.any_some C.hd; rw [hc]; rfl) C.hg C.hk C.hs C.ha C.hn C.ht C.hm) I.kIn J e (fun z => nomatch z) fun tk => ⟨.bl b, H, I.kept (t' := tk) fun _ _ z => z, rfl, q⟩
end L2
namespace L2
open PySem PySem.Spec PyProof.Rows
theorem flying_keeps {B h h' : Heap} {l : List Env} {e : Addr} {Z : Obj → Prop} (x : HandSPX.FlyingZ B l e Z h) (k : ∀ b o, h.get? b = some o → h'.get? b = some o) : HandSPX.FlyingZ B l e Z h' := by
  obtain ⟨h1, h2, h3, oe, vs, T, oT, ts, e1, e2, e3, e4, e5, e6, e7, e8, e9⟩ := x
  exact ⟨fun b o q => k b o (h1 b o q), h2, Heap.FunFrames.of_keeps (fun b o q _ => ⟨o, k b o q, rfl⟩) h3, oe, vs, T, oT, ts, k _ _ e1, e2, e3, e4, e5, e6, k _ _ e7, e8, e9⟩
/-- except (x1, x2): the clause takes what the body lets out -/
def wTup (K : PySem.W.Frag) (c1 c2 : Value) (ts : Addr → Value → Option Addr → TS) (D : Ends) : WX := fun cls d σ H => PySem.W.exmAny K cls [c1, c2] = some true ∧ ∀ a, H a = none → ts a cls d D σ H
section
variable {X : Cx} {x1 x2 : Str} {c1 c2 : Value} {body suite : List Stmt} {b₀ : Stmt} {n1 n2 tpos pos pos' : Pos} {kk : Nat} {tb : WX → TS} {ts : Addr → Value → Option Addr → TS}
theorem ps_try_tup (hs : X.stack = X.env :: X.outer) (hf : X.env.frame = some X.env.locals) (hc1 : Names X x1 c1) (hc2 : Names X x2 c2)
    (hb : ∀ (W : WX) (pn : List (Addr × Obj)) (xe : Value → Shared → Prop), Takes (X.tr pn xe) W → PassesOwn (model X.prog X.w) X.A X.env xe → PSs (X.tr pn xe) body (tb W))
    (hsu : ∀ (a : Addr) (oe : Obj) (cls : Value) (d : Option Addr) (pn : List (Addr × Obj)), Zc cls d oe → (∃ vs, oe.data = .fields vs) → PSs (X.suite a ((a, oe) :: pn)) (b₀ :: suite) (ts a cls d)) :
    PS X (.Try body [.ExceptHandler (some (.Tuple [.Name x1 n1, .Name x2 n2] kk tpos)) none (b₀ :: suite) pos'] [] [] pos) (fun D σ H => tb (wTup X.K c1 c2 ts D) D σ H) := by
  refine ⟨fun pins s σ H D I h => ?_⟩
  have ok := I.ok
  have frm : X.A.frames = some (X.env :: X.outer) := by rw [ok.frames, hs]
  let hd : List ExceptHandler := [.ExceptHandler (some (.Tuple [.Name x1 n1, .Name x2 n2] kk tpos)) none (b₀ :: suite) pos']
  let out : Value → Shared → Prop := fun e s₁ => wpAny (model X.prog X.w) X.A (noteFrame e X.env) (fun _ s₂ => wpAny (model X.prog X.w) X.A (setFlight e none) (fun _ s₃ => wpAny (model X.prog X.w) X.A (handleBy e X.env hd) (SP X pins D) X.xe s₃) X.xe s₂) X.xe s₁
  refine wpAny_Try_except (wpAny_mono ((hb (wTup X.K c1 c2 ts D) (X.pn ++ pins) out (fun u s' xx => ?_) PassesOwn.looking).run [] s σ H D (I.toTry _) h) (fun f s1 hsp => ?_) (fun e s1 he => he))
  · obtain ⟨a, B, sI, pins', σ', H', cls, d, rfl, J', nb, up, sky, na, os, ag, yes, go⟩ := xx
    have J := J'.ofTry ok
    rw [hs] at sky
    refine Sky.land Zc.steady frm hf sky fun h3 fl3 up3 => ?_
    have J3 : Inv X pins σ' H' { s' with heap := h3 } := J.landed nb fl3.1 (up.trans up3) os ag
    obtain ⟨oe, vs, he, hz, hd'⟩ := fl3.there
    have out : a ∉ frs (X.env :: X.outer) := fun hm => by
      obtain ⟨_, o', e', no⟩ := fl3.2.2.1.mem hm
      rw [he] at e'
      cases e'
      exact no _ hd'
    have nL : a ≠ X.env.locals := fun z => out (List.mem_filterMap.mpr ⟨X.env, List.mem_cons_self, by rw [hf, z]⟩)
    have nF : a ∉ X.fs := fun hm => by
      obtain ⟨e, he, q⟩ := List.mem_filterMap.mp hm
      exact out (List.mem_filterMap.mpr ⟨e, List.mem_cons_of_mem _ he, q⟩)
    have S3 := J3.suite he hd' na nL nF
    have nm : ∀ {x : Str} {c : Value} {p : Pos} {Q : Value → Shared → Prop} {E : Value → Shared → Prop}, Names X x c → Q c { s' with heap := h3 } → wpAny (model X.prog X.w) (X.A.mark (some (.ref a))) (eval (.Name x p) X.env) Q E { s' with heap := h3 } := fun {x c p Q E} hc q => by
      obtain ⟨hg, hdb, hm | ⟨hm, hv, hn⟩⟩ := hc
      · exact ld_glob (X := X.suite a ((a, oe) :: (X.pn ++ pins))) S3 hg hm q hdb
      · exact ld_blt (X := X.suite a ((a, oe) :: (X.pn ++ pins))) S3 hg hm hv q hn hdb
    have kp : ∀ q o, h3.get? q = some o → (h3.push { cls := .type "tuple", data := .seq [c1, c2].toArray }).get? q = some o := fun _ _ z => Heap.get?_push_of_some _ z
    have LT : PySem.W.Looks (model X.prog X.w) (h3.push { cls := .type "tuple", data := .seq [c1, c2].toArray }) (typeOf (.ref a)) cls := fun A Q E s k q => wpAny_typeOf_ref (k _ _ (kp _ _ he)) (by rw [hz.1]; exact q)
    refine wpAny_handleBy_cons (codeAny_handlers_test (wpAny_Tuple (wpAny_items_cons (nm hc1 (wpAny_items_cons (nm hc2 (wpAny_items_nil ⟨by show 2 ≤ sizeLine; decide, ?_⟩))))))) (by intro q; cases q)
    refine (PySem.W.exm_tup2 (J3.kIn.keeps kp) LT (Heap.get?_push_size h3 rfl) yes).here ?_
    refine codeAny_handlers_suite (HandSPX.lands_againZ (flying_keeps fl3 kp) fun h4 fl4 up4 => ?_)
    have J4 : Inv X pins σ' H' { s' with heap := h4 } := J.landed nb fl4.1 (((up.trans up3).trans (Heap.UpToSlots.of_keeps kp)).trans up4) os ag
    obtain ⟨oe4, vs4, he4, hz4, hd4⟩ := fl4.there
    refine wpAny_mono ((hsu a oe4 cls d (X.pn ++ pins) hz4 ⟨_, hd4⟩).run [] _ _ H' _ (J4.suite he4 hd4 na nL nF) (go a na)) (fun f s6 hsp => ?_) (fun _ _ z => False.elim z)
    cases f with
    | ret u =>
      obtain ⟨v6, σ6, H6, S6, r6, q6⟩ := hsp
      exact ⟨_, _, _, S6.unsuite ok, r6, q6⟩
    | _ =>
      obtain ⟨σ6, H6, S6, q6⟩ := hsp
      exact ⟨_, _, S6.unsuite ok, q6⟩
  · cases f with
    | next =>
      obtain ⟨σ', H', J', q⟩ := hsp
      exact wpAny_execs_nil ⟨σ', H', J'.ofTry ok, q⟩
    | ret u =>
      obtain ⟨v, σ', H', J', r, q⟩ := hsp
      exact ⟨v, σ', H', J'.ofTry ok, r, q⟩
    | _ =>
      obtain ⟨σ', H', J', q⟩ := hsp
      exact ⟨σ', H', J'.ofTry ok, q⟩
end
end L2
namespace L2
open PySem PySem.Spec PyProof.Rows
/-- t * k, k of any size up to ten thousand -/
def rRepW (K : PySem.W.Frag) : R2 := fun x y H Q => ∃ l k xs, x = .ref l ∧ y = .int k ∧ SqT K H l xs ∧ xs ≠ [] ∧ 2 ≤ k ∧ k ≤ 10000 ∧ xs.length ≤ 10 ∧ ∀ p, H p = none → Q (.ref p) (upd H p (.tup (List.replicate k.toNat xs).flatten))
theorem op_repW {X : Cx} : OpR X (binaryOp .Mult) (rRepW X.K) := by
  intro pins s σ H x y v u Q I rx ry h
  obtain ⟨l, k, xs, rfl, rfl, hT, hne, h1, h2, hz, q⟩ := h
  cases rx
  obtain ⟨t, rfl⟩ := ry
  obtain ⟨its, r, ⟨⟨cls, dd, data, sl⟩, ho, hc, n, hd⟩, hs⟩ := I.tuple hT
  simp only at hc hd
  subst hc hd
  have hle : its.length = xs.length := r.length.symm
  have hn : its ≠ [] := fun e => by
    rw [e] at hle
    exact hne (List.eq_nil_of_length_eq_zero hle.symm)
  have hi : its.toArray.isEmpty = false := by
    cases its with
    | nil => exact absurd rfl hn
    | cons a b => rfl
  have hsz : its.toArray.size = xs.length := by rw [List.size_toArray, hle]
  have hm : ((its.toArray.size : Nat) : Int) * k ≤ 100000 := by
    rw [hsz]
    have : ((xs.length : Nat) : Int) * k ≤ 10 * k := Int.mul_le_mul_of_nonneg_right (by omega) (by omega)
    omega
  have fl : k.toNat * xs.length ≤ 10000 * 10 := Nat.mul_le_mul (by omega) hz
  have flen : (List.replicate k.toNat its).flatten.length ≤ sizeLine := by
    rw [PyProof.Rows.lm_len_rep_flat, hle, sizeLine_eq]
    omega
  have big : (decide (k < -(2 ^ 63)) || decide (k ≥ 2 ^ 63)) = false := by
    rw [decide_eq_false (by omega), decide_eq_false (by omega)] <;> rfl
  have one : (its.toArray.isEmpty || k == 1) = false := by rw [hi, Bool.false_or]; exact beq_eq_false_iff_ne.mpr (by omega)
  have low : (decide (k ≤ 0) || its.toArray.isEmpty) = false := by rw [hi, Bool.or_false]; exact decide_eq_false (by omega)
  have many : Builtin.Tuple.tupleTooMany (((its.toArray.size : Nat) : Int) * k) = false := by
    unfold Builtin.Tuple.tupleTooMany
    rw [sizeLine_eq]
    exact decide_eq_false (by omega)
  have road := tuple_mulW l its.toArray n dd sl k t big one low (by omega) many (by rw [size_rep, List.size_toArray]; exact flen)
  refine wpAny_binaryOp_repeat_ref (T := "tuple") (U := "int") (by decide) ⟨_, ho, rfl⟩ (fun s' => typeIs_int s' k t) noFill_tuple_mul F.fills_int_mul F.slot_int_rmul repeat_tuple F.slot_int_index.lookup
    (call_meets F.slot_int_rmul (typeIs_int s k t) F.entry_int_rmul (F.args_int_rmul_2 _ _) (int_rmul_tuple k t l its.toArray n dd sl) ⟨ho, rfl, ⟨_, ho, rfl⟩, call_meets F.slot_tuple_mul ⟨_, ho, rfl⟩ F.entry_tuple_mul (F.args_tuple_mul_2 _ _) road ⟨ho, ?_⟩⟩)
  rw [size_rep]
  refine ⟨.ref s.heap.objs.size, _, I.laid (t' := s.toks) (o := .tup (List.replicate k.toNat xs).flatten) (fun b ob q => Heap.get?_push_of_some _ q) (Nat.le_refl _) ?_, rfl, q _ (I.hok.fresh (Nat.le_refl _))⟩
  exact ⟨by rw [PyProof.Rows.lm_len_rep_flat, sizeLine_eq]; omega, _, r.rep k.toNat, IsTup.new _ _⟩
end L2
namespace L2
open PySem PySem.Spec PyProof.Rows
section
variable {prog : Program} {w : World} {A : Around} {E : Value → Shared → Prop} {s : Shared} {l : Addr} {its : List Value} {ns : List Int} {xs : Array (Int × Tok)} {Q : Value → Shared → Prop}
theorem iter_intTup (hl : s.heap.IsTuple l (intItems xs))
    (h : ∀ s₂ : Shared, s₂ = { s with heap := s.heap.push { cls := .type "tuple_iterator", data := .fields #[.ref l, .int 0 0] } } →
      (s₂.heap.IsTupleIter s.heap.objs.size l 0 ∧ s₂.heap.IsTuple l (intItems xs)) → (∀ b ∈ [s.heap.objs.size, l], b < s₂.heap.objs.size) → l ≠ s.heap.objs.size → Q (.ref s.heap.objs.size) s₂) :
    wpAny (model prog w) A (pyIter (.ref l)) Q E s := by
  have hlt : l < s.heap.objs.size := by obtain ⟨_, e, _⟩ := hl; exact Heap.lt_size e
  refine wpAny_pyIter_tuple hl (h _ rfl ⟨⟨_, Heap.get?_push_size _ rfl, rfl, rfl⟩, hl.at fun o e => Heap.get?_push_of_some _ e⟩ (fun b hb => ?_) (Nat.ne_of_lt hlt))
  show b < (s.heap.push _).objs.size
  rw [Heap.size_push]
  rcases List.mem_cons.mp hb with rfl | hb
  · exact Nat.lt_succ_self _
  · rcases List.mem_cons.mp hb with rfl | hb
    · exact Nat.lt_succ_of_lt hlt
    · cases hb
theorem old_keptT {h' : Heap} (hk : ∀ b o, b ∉ [s.heap.objs.size] → (s.heap.push { cls := .type "tuple_iterator", data := .fields #[.ref l, .int 0 0] }).get? b = some o → h'.get? b = some o) :
    ∀ b o, s.heap.get? b = some o → h'.get? b = some o := fun b o e => by
  refine hk b o (fun hm => ?_) (Heap.get?_push_of_some _ e)
  rcases List.mem_cons.mp hm with e1 | hm
  · exact absurd (e1 ▸ Heap.lt_size e) (Nat.lt_irrefl _)
  · cases hm
theorem max_intTup (hh : A.handled = none) (hl : s.heap.IsTuple l (intItems xs)) (hne : 0 < xs.size)
    (h : ∀ v h' tk, (intItems xs)[argBest (fun i j => decide (numAt xs i > numAt xs j)) (xs.size - 1)]? = some v → (∀ b o, s.heap.get? b = some o → h'.get? b = some o) → Q v { s with heap := h', toks := tk }) :
    wpAny (model prog w) A (call (.builtin "max") [.ref l]) Q E s := by
  refine call_max_walk (iter_intTup hl fun s₂ e st hfp hlI => ?_)
  subst e
  refine ⟨_, _, _, _, _, _, _, rfl, Walks.tuple (A := A.in1) hh _ l hlI (intItems xs), st, hfp, by simpa [intItems] using hne, CmpOf.ints_gt (numAt xs) (fun _ _ => intItems_at), fun v h' tk hP hk => ?_⟩
  exact h v h' tk (by simpa [intItems] using hP) (old_keptT hk)
theorem min_intTup (hh : A.handled = none) (hl : s.heap.IsTuple l (intItems xs)) (hne : 0 < xs.size)
    (h : ∀ v h' tk, (intItems xs)[argBest (fun i j => decide (numAt xs i < numAt xs j)) (xs.size - 1)]? = some v → (∀ b o, s.heap.get? b = some o → h'.get? b = some o) → Q v { s with heap := h', toks := tk }) :
    wpAny (model prog w) A (call (.builtin "min") [.ref l]) Q E s := by
  refine call_min_walk (iter_intTup hl fun s₂ e st hfp hlI => ?_)
  subst e
  refine ⟨_, _, _, _, _, _, _, rfl, Walks.tuple (A := A.in1) hh _ l hlI (intItems xs), st, hfp, by simpa [intItems] using hne, CmpOf.ints_lt (numAt xs) (fun _ _ => intItems_at), fun v h' tk hP hk => ?_⟩
  exact h v h' tk (by simpa [intItems] using hP) (old_keptT hk)
theorem max_rawT (hh : A.handled = none) (hl : s.heap.IsTuple l its.toArray) (hi : IntsAre its ns) (hne : 0 < ns.length)
    (h : ∀ h' tk M t', (∀ b o, s.heap.get? b = some o → h'.get? b = some o) → M ∈ ns → (∀ a, a ∈ ns → a ≤ M) → Q (.int M t') { s with heap := h', toks := tk }) : wpAny (model prog w) A (call (.builtin "max") [.ref l]) Q E s := by
  obtain ⟨xs, e⟩ := hi.allInts.items
  have hn : numsOf (intItems xs).toList = ns := by rw [← e]; exact hi.numsOf
  rw [nums_intItems] at hn
  subst hn
  rw [e] at hl
  have hsz : 0 < xs.size := by simpa using hne
  refine max_intTup hh hl hsz fun v h' tk hv hk => ?_
  obtain ⟨t, rfl⟩ := intItems_at hv
  obtain ⟨h1, h2⟩ := argBest_gt (numAt xs) (xs.size - 1)
  refine h h' tk _ t hk ?_ fun a ha => ?_
  · rw [numAt_eq]; exact PySem.getD_mem (by rw [List.length_map, Array.length_toList]; omega)
  · obtain ⟨j, hj, rfl⟩ := mem_getD ha
    rw [List.length_map, Array.length_toList] at hj
    rw [← numAt_eq]; exact h2 j (by omega)
theorem min_rawT (hh : A.handled = none) (hl : s.heap.IsTuple l its.toArray) (hi : IntsAre its ns) (hne : 0 < ns.length)
    (h : ∀ h' tk M t', (∀ b o, s.heap.get? b = some o → h'.get? b = some o) → M ∈ ns → (∀ a, a ∈ ns → M ≤ a) → Q (.int M t') { s with heap := h', toks := tk }) : wpAny (model prog w) A (call (.builtin "min") [.ref l]) Q E s := by
  obtain ⟨xs, e⟩ := hi.allInts.items
  have hn : numsOf (intItems xs).toList = ns := by rw [← e]; exact hi.numsOf
  rw [nums_intItems] at hn
  subst hn
  rw [e] at hl
  have hsz : 0 < xs.size := by simpa using hne
  refine min_intTup hh hl hsz fun v h' tk hv hk => ?_
  obtain ⟨t, rfl⟩ := intItems_at hv
  obtain ⟨h1, h2⟩ := argBest_lt (numAt xs) (xs.size - 1)
  refine h h' tk _ t hk ?_ fun a ha => ?_
  · rw [numAt_eq]; exact PySem.getD_mem (by rw [List.length_map, Array.length_toList]; omega)
  · obtain ⟨j, hj, rfl⟩ := mem_getD ha
    rw [List.length_map, Array.length_toList] at hj
    rw [← numAt_eq]; exact h2 j (by omega)
end
section
variable {X : Cx}
/-- max(t), min(t) of a tuple of ints -/
def rMaxT (K : PySem.W.Frag) : List V → Hp → VK → Prop := fun vs H Q => ∃ (a : Addr) (ns : List Int), vs = [V.ref a] ∧ SqT K H a (ns.map V.int) ∧ 0 < ns.length ∧ ∀ m, m ∈ ns → (∀ y, y ∈ ns → y ≤ m) → Q (.int m) H
def rMinT (K : PySem.W.Frag) : List V → Hp → VK → Prop := fun vs H Q => ∃ (a : Addr) (ns : List Int), vs = [V.ref a] ∧ SqT K H a (ns.map V.int) ∧ 0 < ns.length ∧ ∀ m, m ∈ ns → (∀ y, y ∈ ns → m ≤ y) → Q (.int m) H
theorem cr_maxT (hc : X.calm = true) : CallR X (.builtin "max") (rMaxT X.K) := by
  intro pins s σ H vs us Q I r h
  obtain ⟨a, ns, rfl, hs, hne, q⟩ := h
  obtain ⟨its, rv, hl, _⟩ := I.tuple hs
  rw [Vals.ref1 r]
  exact max_rawT (I.ok.hd hc) hl rv.ints hne fun h' tk m t' hk h1 h2 => ⟨.int _, H, I.kept hk, ⟨_, rfl⟩, q m h1 h2⟩
theorem cr_minT (hc : X.calm = true) : CallR X (.builtin "min") (rMinT X.K) := by
  intro pins s σ H vs us Q I r h
  obtain ⟨a, ns, rfl, hs, hne, q⟩ := h
  obtain ⟨its, rv, hl, _⟩ := I.tuple hs
  rw [Vals.ref1 r]
  exact min_rawT (I.ok.hd hc) hl rv.ints hne fun h' tk m t' hk h1 h2 => ⟨.int _, H, I.kept hk, ⟨_, rfl⟩, q m h1 h2⟩
end
end L2
namespace L2
open PySem PySem.Spec PyProof.Rows
/-- the signs of a text, each a text -/
def signs1 (x : Str) : List V := x.cps.toList.map fun c => V.str ⟨#[c]⟩
/-- list(x), x a text -/
def rListS : List V → Hp → VK → Prop := fun xs H Q => ∃ x : Str, xs = [.str x] ∧ x.cps.size ≤ sizeLine ∧ ∀ q, H q = none → Q (.ref q) (upd H q (.lst (signs1 x)))
theorem call_list_strS {X : Cx} (hc : X.calm = true) : CallR X (.type "list") rListS := by
  intro pins s σ H xs us Q I r h
  obtain ⟨x, e, hk, q⟩ := h
  subst e
  obtain ⟨u, eu, rx⟩ := vals1 r
  subst eu
  obtain ⟨t, rfl⟩ := rx
  refine PySem.call_list_str (I.ok.hd hc) x t (fun h' tk acc' c' hkeep hS hacc => ?_) hk
  refine ⟨.ref s.heap.objs.size, upd H s.heap.objs.size (.lst (signs1 x)), I.laid hkeep (Nat.le_refl _) (show ObjOk X.prog X.w _ _ _ (.lst (signs1 x)) from ⟨?_, acc'.toList, c', ?_, ?_⟩), rfl, q _ (I.hok.fresh (Nat.le_refl _))⟩
  · unfold signs1
    rw [List.length_map, Array.length_toList]
    exact hk
  · have el : acc'.toList.length = acc'.size := by simp
    refine vals_of_at (by unfold signs1; rw [List.length_map, el, hacc.1, Array.length_toList]) fun j y w h1 h2 => ?_
    have h3 := hacc.2 j w (by rw [← Array.getElem?_toList]; exact h2)
    obtain ⟨c, tt, h4, h5⟩ := h3
    unfold signs1 at h1
    rw [List.getElem?_map, Array.getElem?_toList, h4] at h1
    cases h1
    exact ⟨tt, h5⟩
  · rw [Array.toArray_toList]
    exact hS
end L2
namespace L2
open PySem PySem.Spec PyProof.Rows
/-- a call of a local that holds one of several defs, which may raise -/
def tCallAS (i : Nat) (S : Addr → Sp → Prop) (E : St → XK) (t : TA) : TE := fun σ H Q => ∃ f sp, σ[i]? = some (some (.ref f)) ∧ S f sp ∧ t σ H fun vs H1 => sp vs H1 Q (E σ)
section
variable {X : Cx} {CX : CXT} {k i : Nat} {E : St → XK} {x : Str} {p pos : Pos} {e : Expr} {es : List Expr} {t : TA}
theorem pe_callAS {S : Addr → Sp → Prop} (A : ∀ f sp, S f sp → ∃ (fd : FuncData) (ps : List Str), FnOk X.prog X.w X.K X.mg X.base CX k f fd ps sp ∧ PySem.W.keepIn X.K (.ref f) = true ∧ Binds X.K fd ps []) (hr : Room k X.A) (hN : X.N[i]? = some x) (hv : Vis X.env.scope x) (hx : ∀ σ, PassesAt CX X σ (E σ)) (ha : PA X (e :: es) t)
    (hdb : (x == ("__debug__" : Str)) = false := by decide) (hcd : (x == ("__classdict__" : Str)) = false := by decide)
    (he : starEach (e :: es) X.env = (false, eval e X.env) :: starEach es X.env := by rfl) (hpl : (backTo pos (starEach es X.env)).any (·.1) = false := by rfl) : PE X (.Call (.Name x p) (e :: es) [] pos) (tCallAS i S E t) := by
  refine ⟨fun pins s σ H Q I h => ?_⟩
  obtain ⟨f, sp, hs, hS, ht⟩ := h
  obtain ⟨fd, ps, F, hk, hb⟩ := A f sp hS
  refine wpAny_Call_Name_kw (thn ((pe_var (pos := p) hN hv hdb hcd).run pins s σ H (fun v H1 => v = .ref f ∧ H1 = H) I ⟨.ref f, hs, rfl, rfl⟩) fun u s1 ⟨v, H1, I1, r1, q1⟩ => ?_)
  obtain ⟨rfl, rfl⟩ := q1
  cases r1
  refine PySem.W.callWith_K (h₀ := X.base) I.ok.mod.kin hk (thn (ha.run pos pins s1 σ _ _ I1 ht) fun us s2 ⟨vs, H2, I2, r, q⟩ => ⟨I2.kIn, ?_⟩) he hpl
  exact run_fnS F hr hb (hx σ) I2 r q
end
end L2
namespace K01
open PySem L2  RZ Cnt
def top (i : Nat) : Stmt := PySem.Challenge.pw_meetstores_k01_whole_texts_and_values.main.body.getD i (.Pass ⟨0, 0, 0, 0⟩)
/-- a def of the top, by its name -/
structure Dfn (K : PySem.W.Frag) (mg : Str → Option Value) (x : Str) (st : Stmt) (ps : List Str) (f : Addr) (fd : FuncData) : Prop where
  F : Fun K x x st f fd
  g : mg x = some (.ref f)
  b : Binds K fd ps []
/-- the built-in names that the top leaves alone -/
structure Bi (mg : Str → Option Value) : Prop where
  len : mg "len" = none
  int : mg "int" = none
  range : mg "range" = none
  tuple : mg "tuple" = none
  list : mg "list" = none
  isinstance : mg "isinstance" = none
  zip : mg "zip" = none
  type : mg "type" = none
  str : mg "str" = none
  bool : mg "bool" = none
  all : mg "all" = none
  min : mg "min" = none
  max : mg "max" = none
/-! ### the draws -/
def Keep (r : Addr) (H H' : Hp) : Prop := ∀ b o, b ≠ r → H b = some o → H' b = some o
theorem yes {σ : St} {H : Hp} {te : TE} {k : V → Hp → Prop} {N : Hp → Prop} (h : te σ H k) : tYes σ H fun b H3 => if b = true then te σ H3 k else N H3 := by
  show if true = true then te σ H k else N H
  rw [if_pos rfl]
  exact h
theorem Keep.refl (r : Addr) (H : Hp) : Keep r H H := fun _ _ _ h => h
theorem Keep.trans {r : Addr} {H H1 H2 : Hp} (a : Keep r H H1) (b : Keep r H1 H2) : Keep r H H2 := fun c o n h => b c o n (a c o n h)
theorem Keep.of {r : Addr} {H H1 : Hp} (a : Same H H1) : Keep r H H1 := fun c o _ h => a c o h
theorem Keep.upd {r : Addr} {H : Hp} {o : HO} : Keep r H (upd H r o) := fun b u n h => by rw [upd_ne n]; exact h
theorem Same.new {H : Hp} {p : Addr} {o : HO} (h : H p = none) : Same H (upd H p o) := fun b x e => by
  rw [upd_ne (ne_of_none e h)]
  exact e
theorem Keep.new {r : Addr} {H : Hp} {p : Addr} {o : HO} (h : H p = none) : Keep r H (L2.upd H p o) := Keep.of (Same.new h)
structure RowI (K : PySem.W.Frag) (H : Hp) (r sc : Addr) (ns : List Int) : Prop where
  row : ∃ n x z : Int, H r = some (.lst [.ref sc, .int n, .int x, .int z]) ∧ 0 ≤ n ∧ 0 ≤ x ∧ x < 2147483647
  stay : ∀ H', Keep r H H' → SqL K H' sc (ns.map V.int)
theorem RowI.scr {K : PySem.W.Frag} {H : Hp} {r sc : Addr} {ns : List Int} (R : RowI K H r sc ns) : SqL K H sc (ns.map V.int) := R.stay H (Keep.refl r H)
theorem Keep.seq {K : PySem.W.Frag} {r : Addr} {H H' : Hp} {a : Addr} {xs : List V} (e : Keep r H H') (n : a ≠ r) (h : SqL K H a xs) : SqL K H' a xs := by
  rcases h with (h | ⟨o, h⟩) | h
  · exact .inl (.inl (e _ _ n h))
  · exact .inl (.inr ⟨o, e _ _ n h⟩)
  · exact .inr h
theorem Keep.seqT {K : PySem.W.Frag} {r : Addr} {H H' : Hp} {a : Addr} {xs : List V} (e : Keep r H H') (n : a ≠ r) (h : SqT K H a xs) : SqT K H' a xs := by
  rcases h with (h | ⟨o, h⟩) | h
  · exact .inl (.inl (e _ _ n h))
  · exact .inl (.inr ⟨o, e _ _ n h⟩)
  · exact .inr h
theorem Same.seqT {K : PySem.W.Frag} {H H' : Hp} {a : Addr} {xs : List V} (e : Same H H') (h : SqT K H a xs) : SqT K H' a xs := by
  rcases h with (h | ⟨o, h⟩) | h
  · exact .inl (.inl (e _ _ h))
  · exact .inl (.inr ⟨o, e _ _ h⟩)
  · exact .inr h
theorem RowI.same {K : PySem.W.Frag} {H H' : Hp} {r sc : Addr} {ns : List Int} (R : RowI K H r sc ns) (e : Same H H') : RowI K H' r sc ns := by
  obtain ⟨⟨n, x, z, h, b⟩, s⟩ := R
  exact ⟨⟨n, x, z, e _ _ h, b⟩, fun H'' k => s H'' ((Keep.of e).trans k)⟩
theorem RowI.new {K : PySem.W.Frag} {H : Hp} {r sc p : Addr} {ns : List Int} (R : RowI K H r sc ns) (hp : H p = none) : p ≠ r := fun e => by
  obtain ⟨⟨_, _, _, h, _⟩, _⟩ := R
  rw [e, h] at hp
  cases hp
theorem Keep.free {r p : Addr} {H H' : Hp} (k : Keep r H H') (h : H' p = none) (n : p ≠ r) : H p = none := by
  cases e : H p with
  | none => rfl
  | some o => rw [k _ _ n e] at h; cases h
/-- another object than the row is written: the script is as it was ahead of it -/
theorem RowI.ups {K : PySem.W.Frag} {H H3 : Hp} {r sc p : Addr} {ns : List Int} {o : HO} (R : RowI K H3 r sc ns) (R0 : RowI K H r sc ns) (np : p ≠ r) (k : Keep r H (upd H3 p o)) : RowI K (upd H3 p o) r sc ns := by
  obtain ⟨⟨n, x, z, h, b⟩, s⟩ := R
  exact ⟨⟨n, x, z, by rw [upd_ne np.symm]; exact h, b⟩, fun H'' k' => R0.stay H'' (k.trans k')⟩
theorem RowI.set {K : PySem.W.Frag} {H : Hp} {r sc : Addr} {ns : List Int} (R : RowI K H r sc ns) {n x z : Int} (hn : 0 ≤ n) (h0 : 0 ≤ x) (h1 : x < 2147483647) : RowI K (upd H r (.lst [.ref sc, .int n, .int x, .int z])) r sc ns :=
  ⟨⟨n, x, z, upd_same, hn, h0, h1⟩, fun H'' k => R.stay H'' (Keep.upd.trans k)⟩
theorem RowI.start {K : PySem.W.Frag} {H : Hp} {r sc : Addr} {ns : List Int} {x : Int} (hS : SqL K H sc (ns.map V.int)) (hr : H r = none) (h0 : 0 ≤ x) (h1 : x < 2147483647) : RowI K (upd H r (.lst [.ref sc, .int 0, .int x, .int 0])) r sc ns := by
  refine ⟨⟨0, x, 0, upd_same, Int.le_refl 0, h0, h1⟩, fun H' k => ?_⟩
  rcases hS with (h | ⟨o, h⟩) | h
  · have n : sc ≠ r := ne_of_none h hr
    exact .inl (.inl (k _ _ n (by rw [upd_ne n]; exact h)))
  · have n : sc ≠ r := ne_of_none h hr
    exact .inl (.inr ⟨o, k _ _ n (by rw [upd_ne n]; exact h)⟩)
  · exact .inr h
/-- bytes as values -/
def bV (l : List Nat) : List V := l.map fun (n : Nat) => V.int (n : Int)
theorem bV_len (l : List Nat) : (bV l).length = l.length := List.length_map _
theorem bV_app (l : List Nat) (u : Nat) : bV (l ++ [u]) = bV l ++ [.int (u : Int)] := by
  unfold bV
  rw [List.map_append]
  rfl
theorem bV_get {l : List Nat} {i : Nat} {x : V} (h : (bV l)[i]? = some x) : ∃ n, l[i]? = some n ∧ x = .int (n : Int) := by
  unfold bV at h
  rw [List.getElem?_map] at h
  cases e : l[i]? with
  | none => rw [e] at h; cases h
  | some n => rw [e] at h; exact ⟨n, rfl, (Option.some.inj h).symm⟩
theorem bV_at {l : List Nat} {i n : Nat} (h : l[i]? = some n) : (bV l)[i]? = some (.int (n : Int)) := by
  unfold bV
  rw [List.getElem?_map, h]
  rfl
def Byt (l : List Nat) : Prop := ∀ o, o ∈ l → o < 256
theorem bV_append (l m : List Nat) : bV l ++ bV m = bV (l ++ m) := by unfold bV; rw [List.map_append]
abbrev s_law_taken : Stmt := top 30
abbrev n_law_taken : List Str := ["row", "many", "found", "cell"]
abbrev p_law_taken : List Str := ["row", "many"]
theorem sc_law_taken : FnScope n_law_taken p_law_taken (defScope s_law_taken) := ⟨rfl, rfl, rfl, by decide +kernel, rfl, by decide +kernel, by decide +kernel⟩
def spTaken (K : PySem.W.Frag) : Sp := fun vs H Q _ => ∃ (r sc : Addr) (ns : List Int) (many : Int), vs = [.ref r, .int many] ∧ RowI K H r sc ns ∧ 0 < many ∧ many < 9223372036854775808 ∧
  ∀ (v : Int) (H' : Hp), 0 ≤ v → v < many → RowI K H' r sc ns → Keep r H H' → Q (.int v) H'
section
variable {P : Program} {w : World} {K : PySem.W.Frag} {mg : Str → Option Value} {base : Heap}
theorem ok_taken {f : Addr} {fd : FuncData} (D : Dfn K mg "_law_taken" s_law_taken p_law_taken f fd) (B : Bi mg) : FnOk P w K mg base CX0 1 f fd p_law_taken (spTaken K) := by
  refine D.F.ok sc_law_taken (fun vs H Q E h => ?_) (fun cdv A outer s H vs Q E hr h => ?_)
  · obtain ⟨r, sc, ns, many, rfl, _⟩ := h
    rfl
  · obtain ⟨r, sc, ns, many, rfl, R, m0, m1, q⟩ := h
    have nd := sc_law_taken.nd
    refine ⟨_, pss_cons (ps_if (pt_cmpR op_gt (pe_ix ix_list (pv 0) pe_int (fun _ _ => rfl)) pe_int (nomark _))
        (pss_cons (ps_set (i := 2) nd rfl (.inl rfl) (pe_op op_modN (pe_callTy call_int1 (by rfl) B.int (by decide +kernel) (pa_cons (pe_ix ix_list (pv 0) pe_int (fun _ _ => rfl)) pa_nil)) (pv 1)))
        (pss_cons (ps_asg (pe_op op_fdivW (pe_ix ix_list (pv 0) pe_int (fun _ _ => rfl)) (pv 1)) (pg_sub (pv 0) pe_int set_list))
        (pss_one (ps_ret (pv 2))))) pss_nil)
      (pss_cons (ps_asg (pe_op op_add (pe_ix ix_list (pv 0) pe_int (fun _ _ => rfl)) pe_int) (pg_sub (pv 0) pe_int set_list))
      (pss_cons (ps_if (pt_cmpR op_gt (pe_ix ix_list (pv 0) pe_int (fun _ _ => rfl)) (pe_callB call_len_seq (by rfl) B.len PySem.boot_len (pa_cons (pe_ix ix_list (pv 0) pe_int (fun _ _ => rfl)) pa_nil)) (nomark _))
        (pss_cons (ps_asg (pe_op op_modN (pe_callTy call_int1 (by rfl) B.int (by decide +kernel) (pa_cons (pe_op op_add (pe_op op_mul (pe_ix ix_list (pv 0) pe_int (fun _ _ => rfl)) pe_int) pe_int) pa_nil)) pe_int) (pg_sub (pv 0) pe_int set_list))
        (pss_one (ps_ret (pe_op op_modN (pe_callTy call_int1 (by rfl) B.int (by decide +kernel) (pa_cons (pe_op op_fdivN (pe_ix ix_list (pv 0) pe_int (fun _ _ => rfl)) pe_int) pa_nil)) (pv 1))))) pss_nil)
      (pss_cons (ps_set (i := 3) nd rfl (.inl rfl) (pe_ix ix_list (pe_ix ix_list (pv 0) pe_int (fun _ _ => rfl)) (pe_op op_sub (pe_ix ix_list (pv 0) pe_int (fun _ _ => rfl)) pe_int) (fun _ _ => rfl)))
      (pss_cons (ps_asg (pe_op op_modN (pe_callTy call_int1 (by rfl) B.int (by decide +kernel) (pa_cons (pe_op op_add (pe_op op_add (pe_op op_mul (pe_ix ix_list (pv 0) pe_int (fun _ _ => rfl)) pe_int) (pv 3)) pe_int) pa_nil)) pe_int) (pg_sub (pv 0) pe_int set_list))
      (pss_cons (ps_if (pt_cmpR op_ge (pv 3) (pe_op op_pow pe_int pe_int) (nomark _))
        (pss_one (ps_asg (pe_op op_fdivW (pv 3) (pv 1)) (pg_sub (pv 0) pe_int set_list))) pss_nil)
      (pss_one (ps_ret (pe_op op_modN (pe_callTy call_int1 (by rfl) B.int (by decide +kernel) (pa_cons (pv 3) pa_nil)) (pv 1))))))))), ?_⟩
    obtain ⟨⟨n, x, z, hrow, hn, hx0, hx1⟩, hst⟩ := id R
    have g0 : ∀ (a b c d : V), atI [a, b, c, d] (0 : Int) = some a := fun _ _ _ _ => rfl
    have g1 : ∀ (a b c d : V), atI [a, b, c, d] (1 : Int) = some b := fun _ _ _ _ => rfl
    have g2 : ∀ (a b c d : V), atI [a, b, c, d] (2 : Int) = some c := fun _ _ _ _ => rfl
    have g3 : ∀ (a b c d : V), atI [a, b, c, d] (3 : Int) = some d := fun _ _ _ _ => rfl
    -- if row[3] > 0
    refine ⟨_, rfl, r, _, _, _, rfl, rfl, SqL.of hrow, g3 _ _ _ _, _, _, rfl, rfl, _, rfl, ?_⟩
    by_cases hz : 0 < z
    · rw [decide_eq_true hz]
      refine iteT ?_
      refine ⟨_, rfl, r, _, _, _, rfl, rfl, SqL.of hrow, g3 _ _ _ _, .inl ⟨_, rfl, _, rfl, _, _, rfl, rfl, (by omega), ?_⟩⟩
      refine ⟨_, rfl, r, _, _, _, rfl, rfl, SqL.of hrow, g3 _ _ _ _, _, rfl, _, _, rfl, rfl, wide_div (b := 63) m0 (by omega) (by decide) (by decide), ?_⟩
      refine ⟨_, rfl, r, _, _, 3, rfl, rfl, hrow, rfl, ?_⟩
      refine ⟨_, rfl, ?_⟩
      refine q _ _ ?_ ?_ (R.set hn hx0 hx1) Keep.upd
      · exact Int.fmod_nonneg_of_pos _ m0
      · exact Int.fmod_lt_of_pos _ m0
    · rw [decide_eq_false hz]
      refine iteF ?_
      -- row[1] = row[1] + 1
      refine ⟨_, rfl, r, _, _, _, rfl, rfl, SqL.of hrow, g1 _ _ _ _, _, _, rfl, rfl, _, rfl, r, _, _, 1, rfl, rfl, hrow, rfl, ?_⟩
      have R1 : RowI K (upd H r (.lst [.ref sc, .int (n + 1), .int x, .int z])) r sc ns := R.set (by omega) hx0 hx1
      have k1 : Keep r H (upd H r (.lst [.ref sc, .int (n + 1), .int x, .int z])) := Keep.upd
      show tSeq _ _ _ _ (upd H r (.lst [.ref sc, .int (n + 1), .int x, .int z]))
      have h1 : upd H r (.lst [.ref sc, .int (n + 1), .int x, .int z]) r = some (.lst [.ref sc, .int (n + 1), .int x, .int z]) := upd_same
      generalize upd H r (.lst [.ref sc, .int (n + 1), .int x, .int z]) = H1 at R1 k1 h1
      -- if row[1] > len(row[0])
      refine ⟨_, rfl, r, _, _, _, rfl, rfl, SqL.of h1, g1 _ _ _ _, _, rfl, r, _, _, _, rfl, rfl, SqL.of h1, g0 _ _ _ _, sc, _, rfl, .inl R1.scr, _, _, rfl, rfl, _, rfl, ?_⟩
      rw [List.length_map]
      by_cases hl : (ns.length : Int) < n + 1
      · rw [decide_eq_true hl]
        refine iteT ?_
        refine ⟨_, rfl, r, _, _, _, rfl, rfl, SqL.of h1, g2 _ _ _ _, _, _, rfl, rfl, .inl ⟨by omega, by omega⟩, _, _, rfl, rfl, .inl ⟨_, rfl, _, _, rfl, rfl, (by show (2147483647 : Int) ≠ 0; decide), ?_⟩⟩
        refine ⟨_, rfl, r, _, _, 2, rfl, rfl, h1, rfl, ?_⟩
        have R2 : RowI K (upd H1 r (.lst [.ref sc, .int (n + 1), .int ((x * 48271 + 11).fmod 2147483647), .int z])) r sc ns := R1.set (by omega) (Int.fmod_nonneg_of_pos _ (by decide)) (Int.fmod_lt_of_pos _ (by decide))
        have h2 : upd H1 r (.lst [.ref sc, .int (n + 1), .int ((x * 48271 + 11).fmod 2147483647), .int z]) r = some _ := upd_same
        refine ⟨_, rfl, r, _, _, _, rfl, rfl, SqL.of h2, g2 _ _ _ _, _, _, rfl, rfl, ⟨by decide, by decide⟩, .inl ⟨_, rfl, _, rfl, _, _, rfl, rfl, by omega, ?_⟩⟩
        exact q _ _ (Int.fmod_nonneg_of_pos _ m0) (Int.fmod_lt_of_pos _ m0) R2 (k1.trans Keep.upd)
      · rw [decide_eq_false hl]
        refine iteF ?_
        have hlt : n.toNat < ns.length := by omega
        -- cell = row[0][row[1] - 1]
        refine ⟨_, rfl, r, _, _, _, rfl, rfl, SqL.of h1, g0 _ _ _ _, _, rfl, r, _, _, _, rfl, rfl, SqL.of h1, g1 _ _ _ _, _, _, rfl, rfl, sc, _, _, _, rfl, rfl, R1.scr, at_of (j := n.toNat) (v := V.int ns[n.toNat]) (by omega) (by rw [List.getElem?_map, List.getElem?_eq_getElem hlt]; rfl), ?_⟩
        generalize ns[n.toNat] = c
        refine ⟨_, rfl, r, _, _, _, rfl, rfl, SqL.of h1, g2 _ _ _ _, _, _, rfl, rfl, .inl ⟨by omega, by omega⟩, _, rfl, _, _, rfl, rfl, _, _, rfl, rfl, .inl ⟨_, rfl, _, _, rfl, rfl, (by show (2147483647 : Int) ≠ 0; decide), ?_⟩⟩
        refine ⟨_, rfl, r, _, _, 2, rfl, rfl, h1, rfl, ?_⟩
        have R2 : RowI K (upd H1 r (.lst [.ref sc, .int (n + 1), .int ((x * 48271 + c + 11).fmod 2147483647), .int z])) r sc ns := R1.set (by omega) (Int.fmod_nonneg_of_pos _ (by decide)) (Int.fmod_lt_of_pos _ (by decide))
        have h2 : upd H1 r (.lst [.ref sc, .int (n + 1), .int ((x * 48271 + c + 11).fmod 2147483647), .int z]) r = some _ := upd_same
        have k2 : Keep r H (upd H1 r (.lst [.ref sc, .int (n + 1), .int ((x * 48271 + c + 11).fmod 2147483647), .int z])) := k1.trans Keep.upd
        refine ⟨_, rfl, _, _, rfl, rfl, ⟨by decide, by decide, by decide⟩, _, _, rfl, rfl, _, rfl, ?_⟩
        by_cases hc : (10 : Int) ^ (18 : Int).toNat ≤ c
        · rw [decide_eq_true hc]
          refine iteT ?_
          refine ⟨_, rfl, _, rfl, _, _, rfl, rfl, wide_div (b := 63) m0 (by omega) (by decide) (by decide), _, rfl, r, _, _, 3, rfl, rfl, h2, rfl, ?_⟩
          refine ⟨_, rfl, .inl ⟨_, rfl, _, rfl, _, _, rfl, rfl, by omega, ?_⟩⟩
          exact q _ _ (Int.fmod_nonneg_of_pos _ m0) (Int.fmod_lt_of_pos _ m0) (R2.set (by omega) (Int.fmod_nonneg_of_pos _ (by decide)) (Int.fmod_lt_of_pos _ (by decide))) (k2.trans Keep.upd)
        · rw [decide_eq_false hc]
          refine iteF ?_
          refine ⟨_, rfl, .inl ⟨_, rfl, _, rfl, _, _, rfl, rfl, by omega, ?_⟩⟩
          exact q _ _ (Int.fmod_nonneg_of_pos _ m0) (Int.fmod_lt_of_pos _ m0) R2 k2
end
section
variable {P : Program} {w : World} {K : PySem.W.Frag} {mg : Str → Option Value} {base : Heap}
abbrev s_law_pick : Stmt := top 31
abbrev n_law_pick : List Str := ["row", "things"]
abbrev p_law_pick : List Str := ["row", "things"]
theorem sc_law_pick : FnScope n_law_pick p_law_pick (defScope s_law_pick) := ⟨rfl, rfl, rfl, by decide +kernel, rfl, by decide +kernel, by decide +kernel⟩
def spPick (K : PySem.W.Frag) : Sp := fun vs H Q _ => ∃ (r sc : Addr) (ns : List Int) (a : Addr) (xs : List V), vs = [.ref r, .ref a] ∧ RowI K H r sc ns ∧ SqL K H a xs ∧ a ≠ r ∧ 0 < xs.length ∧ xs.length < 1073741824 ∧
  ∀ (v : V) (H' : Hp), v ∈ xs → RowI K H' r sc ns → Keep r H H' → Q v H'
theorem ok_pick {f fT : Addr} {fd fdT : FuncData} (D : Dfn K mg "_law_pick" s_law_pick p_law_pick f fd) (B : Bi mg) (DT : Dfn K mg "_law_taken" s_law_taken p_law_taken fT fdT) : FnOk P w K mg base CX0 2 f fd p_law_pick (spPick K) := by
  have GT : FnOk P w K mg base CX0 1 fT fdT p_law_taken (spTaken K) := ok_taken DT B
  refine D.F.ok sc_law_pick (fun vs H Q E h => ?_) (fun cdv A outer s H vs Q E hr h => ?_)
  · obtain ⟨r, sc, ns, a, xs, rfl, _⟩ := h
    rfl
  · obtain ⟨r, sc, ns, a, xs, rfl, R, hs, hne, hl0, hl1, q⟩ := h
    refine ⟨_, pss_one (ps_ret (pe_ix ix_list (pv 1) (pe_call GT hr (by rfl) DT.g DT.F.kp DT.b .nil pass0 (pa_cons (pv 0) (pa_cons (pe_callB call_len_seq (by rfl) B.len PySem.boot_len (pa_cons (pv 1) pa_nil)) pa_nil))) (fun _ _ => rfl))), ?_⟩
    refine ⟨_, rfl, _, rfl, _, rfl, a, xs, rfl, .inl hs, r, sc, ns, _, rfl, R, by omega, by omega, fun v H' v0 v1 R' k => ?_⟩
    have hlt : v.toNat < xs.length := by omega
    refine ⟨a, xs, v, xs[v.toNat], rfl, rfl, k.seq hne hs, at_of (j := v.toNat) (by omega) (List.getElem?_eq_getElem hlt), ?_⟩
    exact q _ _ (List.getElem_mem hlt) R' k
end
section
variable {P : Program} {w : World} {K : PySem.W.Frag} {mg : Str → Option Value} {base : Heap}
abbrev s_law_octet : Stmt := top 36
abbrev n_law_octet : List Str := ["row", "way"]
abbrev p_law_octet : List Str := ["row"]
theorem sc_law_octet : FnScope n_law_octet p_law_octet (defScope s_law_octet) := ⟨rfl, rfl, rfl, by decide +kernel, rfl, by decide +kernel, by decide +kernel⟩
def spOct (K : PySem.W.Frag) : Sp := fun vs H Q _ => ∃ (r sc : Addr) (ns : List Int), vs = [.ref r] ∧ RowI K H r sc ns ∧
  ∀ (v : Nat) (H' : Hp), v < 256 → RowI K H' r sc ns → Keep r H H' → Q (.int v) H'
theorem ok_oct {f fT fP : Addr} {fd fdT fdP : FuncData} (D : Dfn K mg "_law_octet" s_law_octet p_law_octet f fd) (B : Bi mg) (DT : Dfn K mg "_law_taken" s_law_taken p_law_taken fT fdT) (DP : Dfn K mg "_law_pick" s_law_pick p_law_pick fP fdP) : FnOk P w K mg base CX0 3 f fd p_law_octet (spOct K) := by
  have GT : FnOk P w K mg base CX0 1 fT fdT p_law_taken (spTaken K) := ok_taken DT B
  have GP : FnOk P w K mg base CX0 2 fP fdP p_law_pick (spPick K) := ok_pick DP B DT
  have nd := sc_law_octet.nd
  refine D.F.ok sc_law_octet (fun vs H Q E h => ?_) (fun cdv A outer s H vs Q E hr h => ?_)
  · obtain ⟨r, sc, ns, rfl, _⟩ := h
    rfl
  · obtain ⟨r, sc, ns, rfl, R, q⟩ := h
    have hr1 : Room 1 _ := hr.mono (by decide)
    refine ⟨_, pss_cons (ps_set (i := 1) nd rfl (.inl rfl) (pe_call GT hr1 (by rfl) DT.g DT.F.kp DT.b .nil pass0 (pa_cons (pv 0) (pa_cons pe_int pa_nil))))
      (pss_one (ps_ret (pe_ifExp (pt_cmpR op_lt (pv 1) pe_int (nomark _)) (pv 1)
        (pe_call GP hr (by rfl) DP.g DP.F.kp DP.b .nil pass0 (pa_cons (pv 0) (pa_cons (pe_lst
          (pa_cons (pe_call GT hr1 (by rfl) DT.g DT.F.kp DT.b .nil pass0 (pa_cons (pv 0) (pa_cons pe_int pa_nil)))
          (pa_cons (pe_call GT hr1 (by rfl) DT.g DT.F.kp DT.b .nil pass0 (pa_cons (pv 0) (pa_cons pe_int pa_nil)))
          (pa_cons (pe_op op_add pe_int (pe_call GT hr1 (by rfl) DT.g DT.F.kp DT.b .nil pass0 (pa_cons (pv 0) (pa_cons pe_int pa_nil)))) pa_nil)))) pa_nil)))))), ?_⟩
    refine ⟨_, rfl, r, sc, ns, _, rfl, R, by decide, by decide, fun v H1 v0 v1 R1 k1 => ?_⟩
    refine ⟨_, rfl, _, _, rfl, rfl, _, rfl, ?_⟩
    by_cases hv : v < 4
    · rw [decide_eq_true hv]
      refine iteT ?_
      refine ⟨_, rfl, ?_⟩
      have e : v = (v.toNat : Int) := by omega
      rw [e]
      exact q _ _ (by omega) R1 k1
    · rw [decide_eq_false hv]
      refine iteF ?_
      refine ⟨_, rfl, _, rfl, r, sc, ns, _, rfl, R1, by decide, by decide, fun u2 H2 a2 b2 R2 k2 => ?_⟩
      refine ⟨_, rfl, r, sc, ns, _, rfl, R2, by decide, by decide, fun u3 H3 a3 b3 R3 k3 => ?_⟩
      refine ⟨_, rfl, r, sc, ns, _, rfl, R3, by decide, by decide, fun u4 H4 a4 b4 R4 k4 => ?_⟩
      refine ⟨_, _, rfl, rfl, (by show 3 ≤ sizeLine; decide), fun l hl => ?_⟩
      have hrl : l ≠ r := fun e => by
        obtain ⟨⟨_, _, _, h, _⟩, _⟩ := R4
        rw [e, h] at hl
        cases hl
      refine ⟨r, sc, ns, l, _, rfl, R4.same (Same.new hl), SqL.of upd_same, hrl, (by show 0 < 3; decide), (by show 3 < 1073741824; decide), fun v H5 hv5 R5 k5 => ?_⟩
      have key : ∀ z : Int, 0 ≤ z → z < 256 → Q (.int z) H5 := fun z z0 z1 => by
        have e : z = (z.toNat : Int) := by omega
        rw [e]
        exact q _ _ (by omega) R5 ((((k1.trans k2).trans k3).trans k4).trans ((Keep.new hl).trans k5))
      rcases List.mem_cons.mp hv5 with rfl | hv5
      · exact key _ a2 (by omega)
      rcases List.mem_cons.mp hv5 with rfl | hv5
      · exact key _ a3 (by omega)
      rcases List.mem_cons.mp hv5 with rfl | hv5
      · exact key _ (by omega) (by omega)
      · cases hv5
end
section
variable {P : Program} {w : World} {K : PySem.W.Frag} {mg : Str → Option Value} {base : Heap}
abbrev s_law_some_octets : Stmt := top 37
abbrev n_law_some_octets : List Str := ["row", "most", "k"]
abbrev p_law_some_octets : List Str := ["row", "most"]
theorem sc_law_some_octets : FnScope n_law_some_octets p_law_some_octets (defScope s_law_some_octets) := ⟨rfl, rfl, rfl, by decide +kernel, rfl, by decide +kernel, by decide +kernel⟩
def spSome (K : PySem.W.Frag) : Sp := fun vs H Q _ => ∃ (r sc : Addr) (ns : List Int) (most : Nat), vs = [.ref r, .int most] ∧ RowI K H r sc ns ∧ most < 10000 ∧
  ∀ (p : Addr) (l : List Nat) (H' : Hp), Byt l → l.length ≤ most → H p = none → H' p = some (.tup (bV l)) → RowI K H' r sc ns → Keep r H H' → Q (.ref p) H'
theorem ok_some {f fT fO : Addr} {fd fdT fdO : FuncData} (D : Dfn K mg "_law_some_octets" s_law_some_octets p_law_some_octets f fd) (B : Bi mg) (DT : Dfn K mg "_law_taken" s_law_taken p_law_taken fT fdT) (DO : Dfn K mg "_law_octet" s_law_octet p_law_octet fO fdO)
    (GO : FnOk P w K mg base CX0 3 fO fdO p_law_octet (spOct K)) : FnOk P w K mg base CX0 4 f fd p_law_some_octets (spSome K) := by
  have GT : FnOk P w K mg base CX0 1 fT fdT p_law_taken (spTaken K) := ok_taken DT B
  have nd := sc_law_some_octets.nd
  refine D.F.ok sc_law_some_octets (fun vs H Q E h => ?_) (fun cdv A outer s H vs Q E hr h => ?_)
  · obtain ⟨r, sc, ns, most, rfl, _⟩ := h
    rfl
  · obtain ⟨r, sc, ns, most, rfl, R, hm, q⟩ := h
    have hr1 : Room 1 _ := hr.mono (by decide)
    refine ⟨_, pss_one (ps_ret (pe_callTy call_tuple_of (by rfl) B.tuple (by decide +kernel) (pa_cons
      (pe_lc (own := [("k", 2)]) (g := gName 2) (tt := tYes) rfl nd (pi_range1 (by rfl) B.range (pa_cons (pe_call GT hr1 (by rfl) DT.g DT.F.kp DT.b .nil pass0 (pa_cons (pv 0) (pa_cons (pe_op op_add (pv 1) pe_int) pa_nil))) pa_nil))
        (blkOk_by (N := n_law_some_octets) (sc := defScope s_law_some_octets) (by decide +kernel)) (fun _ _ _ _ _ => pg_name (i := 2) nd rfl (.inl rfl)) (fun _ _ _ _ _ => pts_nil)
        (fun _ _ _ _ _ => pe_call GO hr (by rfl) DO.g DO.F.kp DO.b .nil pass0 (pa_cons (pv 0) pa_nil))) pa_nil))), ?_⟩
    refine ⟨_, rfl, _, rfl, _, _, rfl, rfl, r, sc, ns, _, rfl, R, by omega, by omega, fun v H1 v0 v1 R1 k1 => ?_⟩
    refine ⟨v, rfl, by omega, by omega, fun Dl hD => ?_⟩
    have nDr : Dl ≠ r := R1.new hD
    have hDH : H Dl = none := k1.free hD nDr
    refine lc_range (lo := 0) (n := v.toNat) (fun i H2 => ∃ l : List Nat, l.length = i ∧ Byt l ∧ H2 Dl = some (.lst (bV l)) ∧ RowI K H2 r sc ns ∧ Keep r H H2) ?_ ?_ ?_
    · exact ⟨[], rfl, (fun o h => by cases h), upd_same, R1.same (Same.new hD), k1.trans (Keep.new hD)⟩
    · rintro i H2 hi ⟨l, hl, hb, hd, R2, k2⟩
      refine ⟨rfl, ?_⟩
      refine yes ?_
      refine ⟨_, rfl, r, sc, ns, rfl, R2, fun u H3 hu R3 k3 => ?_⟩
      have hd3 := k3 _ _ nDr hd
      have kk : Keep r H (L2.upd H3 Dl (.lst (bV l ++ [.int (u : Int)]))) := fun b o n e => by
        rw [upd_ne (ne_of_none e hDH)]
        exact (k2.trans k3) b o n e
      refine ⟨bV l, hd3, ?_, l ++ [u], by rw [List.length_append, hl]; rfl, ?_, ?_, R3.ups R nDr kk, kk⟩
      · rw [bV_len, hl]
        exact Nat.lt_of_lt_of_le hi (Nat.le_trans (by omega : v.toNat ≤ 10000) (by decide))
      · intro o ho
        rcases List.mem_append.mp ho with ho | ho
        · exact hb o ho
        · rcases List.mem_cons.mp ho with rfl | ho
          · exact hu
          · cases ho
      · rw [upd_same, bV_app]
    · rintro H2 ⟨l, hl, hb, hd, R2, k2⟩
      refine ⟨Dl, _, rfl, .inl ⟨SqL.of hd, fun p hp => ?_⟩⟩
      have hpH : H p = none := (k2.free hp (R2.new hp))
      exact q p l _ hb (by omega) hpH upd_same (R2.same (Same.new hp)) (k2.trans (Keep.new hp))
end
/-! ### bits -/
theorem xN (a b : Nat) : Builtin.bitXor (a : Int) (b : Int) = ((a ^^^ b : Nat) : Int) := by
  rw [Bits.bitXor_pp (by omega) (by omega), Int.toNat_natCast, Int.toNat_natCast]
theorem aN (a b : Nat) : Builtin.bitAnd (a : Int) (b : Int) = ((a &&& b : Nat) : Int) := by
  rw [PyProof.Rows.bitAnd_pp (by omega) (by omega), Int.toNat_natCast, Int.toNat_natCast]
theorem oN (a b : Nat) : Builtin.bitOr (a : Int) (b : Int) = ((a ||| b : Nat) : Int) := by
  rw [Bits.bitOr_pp (by omega) (by omega), Int.toNat_natCast, Int.toNat_natCast]
theorem shlN (a j : Nat) : (a : Int) * 2 ^ (j : Int).toNat = ((a <<< j : Nat) : Int) := by
  rw [Int.toNat_natCast, Nat.shiftLeft_eq]
  simp
theorem shrN (a j : Nat) : (a : Int) / 2 ^ (j : Int).toNat = ((a >>> j : Nat) : Int) := by
  rw [Int.toNat_natCast, Nat.shiftRight_eq_div_pow]
  simp
theorem nI {a : Nat} {i : Int} (h : i = (a : Int)) : V.int i = V.int (a : Int) := by rw [h]
theorem bit_test (b i : Nat) : V.bl (decide (V.int (Builtin.bitAnd ((b : Int) / 2 ^ (i : Int).toNat) 1) = V.int 1)) = V.bl (decide ((b >>> i) &&& 1 = 1)) := by
  have e : Builtin.bitAnd ((b : Int) / 2 ^ (i : Int).toNat) 1 = (((b >>> i) &&& 1 : Nat) : Int) := by
    rw [shrN]
    exact aN _ 1
  rw [e]
  congr 1
  rw [decide_eq_decide]
  constructor
  · intro h
    injection h with h
    omega
  · intro h
    rw [h]
    rfl
theorem take_more {α : Type} : ∀ {l : List α} {i : Nat} {x : α}, l[i]? = some x → l.take (i + 1) = l.take i ++ [x]
  | [], i, x, h => by simp at h
  | a :: l, 0, x, h => by
    have e : a = x := Option.some.inj h
    subst e
    rfl
  | a :: l, i + 1, x, h => by
    have ih := take_more (l := l) (i := i) (x := x) h
    show a :: l.take (i + 1) = a :: l.take i ++ [x]
    rw [ih]
    rfl
theorem foldl_more {α β : Type} {f : β → α → β} {b : β} {l : List α} {i : Nat} {x : α} (h : l[i]? = some x) : (l.take (i + 1)).foldl f b = f ((l.take i).foldl f b) x := by
  rw [take_more h, List.foldl_append]
  rfl
theorem take_all {α : Type} (l : List α) : l.take l.length = l := List.take_length
theorem int_eq0 (a : Nat) : V.bl (decide (V.int (a : Int) = V.int 0)) = V.bl (decide (a = 0)) := by
  congr 1
  rw [decide_eq_decide]
  constructor
  · intro h
    injection h with h
    omega
  · intro h
    rw [h]
    rfl
theorem int_eqN (a b : Nat) : V.bl (decide (V.int (a : Int) = V.int (b : Int))) = V.bl (decide (a = b)) := by
  congr 1
  rw [decide_eq_decide]
  constructor
  · intro h
    injection h with h
    omega
  · intro h
    rw [h]
theorem int_neN (a b : Nat) : V.bl (!decide (V.int (a : Int) = V.int (b : Int))) = V.bl (decide (a ≠ b)) := by
  have := int_eqN a b
  injection this with h
  rw [h]
  by_cases e : a = b <;> simp [e]
/-! ### data: alike -/
/-- plain data of at most such a depth -/
def Pl : Nat → PyData → Prop
  | _, .none => True
  | _, .bool _ => True
  | _, .int _ => True
  | _, .str x => PyData.canLay0 (.str x) = true
  | n + 1, .list xs => xs.length ≤ 100000 ∧ ∀ x, x ∈ xs → Pl n x
  | n + 1, .tuple xs => xs.length ≤ 100000 ∧ ∀ x, x ∈ xs → Pl n x
  | 0, .list _ => False
  | 0, .tuple _ => False
  | _, .dict _ => False
theorem Pl.lay : ∀ (n : Nat) (d : PyData), Pl n d → PyData.canLay0 d = true ∧ PyData.depth d ≤ n
  | n, .none, _ => ⟨by simp only [PyData.canLay0], by simp only [PyData.depth]; omega⟩
  | n, .bool _, _ => ⟨by simp only [PyData.canLay0], by simp only [PyData.depth]; omega⟩
  | n, .int _, _ => ⟨by simp only [PyData.canLay0], by simp only [PyData.depth]; omega⟩
  | n, .str x, h => ⟨by cases n <;> exact h, by simp only [PyData.depth]; omega⟩
  | n + 1, .list xs, h => by
    obtain ⟨_, h⟩ := h
    have : ∀ ys : List PyData, (∀ y, y ∈ ys → Pl n y) → PyData.canLayAll0 ys = true ∧ PyData.depthAll ys ≤ n := by
      intro ys
      induction ys with
      | nil => intro _; exact ⟨by simp only [PyData.canLayAll0], by simp only [PyData.depthAll]; omega⟩
      | cons y ys ih =>
        intro hy
        obtain ⟨a, b⟩ := Pl.lay n y (hy y List.mem_cons_self)
        obtain ⟨c, e⟩ := ih fun z hz => hy z (List.mem_cons_of_mem _ hz)
        refine ⟨by simp only [PyData.canLayAll0, a, c, Bool.and_self], ?_⟩
        simp only [PyData.depthAll]
        omega
    obtain ⟨a, b⟩ := this xs h
    refine ⟨by simp only [PyData.canLay0, a], ?_⟩
    simp only [PyData.depth]
    omega
  | n + 1, .tuple xs, h => by
    obtain ⟨_, h⟩ := h
    have : ∀ ys : List PyData, (∀ y, y ∈ ys → Pl n y) → PyData.canLayAll0 ys = true ∧ PyData.depthAll ys ≤ n := by
      intro ys
      induction ys with
      | nil => intro _; exact ⟨by simp only [PyData.canLayAll0], by simp only [PyData.depthAll]; omega⟩
      | cons y ys ih =>
        intro hy
        obtain ⟨a, b⟩ := Pl.lay n y (hy y List.mem_cons_self)
        obtain ⟨c, e⟩ := ih fun z hz => hy z (List.mem_cons_of_mem _ hz)
        refine ⟨by simp only [PyData.canLayAll0, a, c, Bool.and_self], ?_⟩
        simp only [PyData.depthAll]
        omega
    obtain ⟨a, b⟩ := this xs h
    refine ⟨by simp only [PyData.canLay0, a], ?_⟩
    simp only [PyData.depth]
    omega
  | 0, .list _, h => nomatch h
  | 0, .tuple _, h => nomatch h
  | 0, .dict _, h => nomatch h
  | _ + 1, .dict _, h => nomatch h
theorem Pl.shaped {n : Nat} {d : PyData} (h : Pl n d) (hn : n ≤ 64) : SeqAt.shaped d = true := by
  obtain ⟨a, b⟩ := Pl.lay n d h
  unfold SeqAt.shaped
  rw [a, decide_eq_true (Nat.le_trans b hn)]
  rfl
theorem Pl.succ : ∀ (n : Nat) (d : PyData), Pl n d → Pl (n + 1) d
  | n, .none, _ => True.intro
  | n, .bool _, _ => True.intro
  | n, .int _, _ => True.intro
  | n, .str x, h => by cases n <;> exact h
  | n + 1, .list xs, h => ⟨h.1, fun x hx => Pl.succ n x (h.2 x hx)⟩
  | n + 1, .tuple xs, h => ⟨h.1, fun x hx => Pl.succ n x (h.2 x hx)⟩
  | 0, .list _, h => nomatch h
  | 0, .tuple _, h => nomatch h
  | 0, .dict _, h => nomatch h
  | _ + 1, .dict _, h => nomatch h
mutual
theorem Dp.same {K : PySem.W.Frag} {H H' : Hp} (s : Same H H') : ∀ (d : PyData) (x : V), Dp K H x d → Dp K H' x d
  | .none, _, h => by cases h; exact .non
  | .bool _, _, h => by cases h; exact .bl _
  | .int _, _, h => by cases h; exact .int _
  | .str _, _, h => by cases h; exact .str _
  | .list ds, _, h => by
    cases h with
    | lst hs ha => exact .lst (s.seq hs) (DpAll.same s ds _ ha)
  | .tuple ds, _, h => by
    cases h with
    | tup hs ha => exact .tup (Same.seqT s hs) (DpAll.same s ds _ ha)
  | .dict _, _, h => by cases h
theorem DpAll.same {K : PySem.W.Frag} {H H' : Hp} (s : Same H H') : ∀ (ds : List PyData) (xs : List V), DpAll K H xs ds → DpAll K H' xs ds
  | [], _, h => by cases h; exact .nil
  | d :: ds, _, h => by
    cases h with
    | cons h1 h2 => exact .cons (Dp.same s d _ h1) (DpAll.same s ds _ h2)
end
theorem DpAll.len {K : PySem.W.Frag} {H : Hp} : ∀ {ds : List PyData} {xs : List V}, DpAll K H xs ds → xs.length = ds.length
  | [], _, h => by cases h; rfl
  | d :: ds, _, h => by
    cases h with
    | cons h1 h2 => rw [List.length_cons, List.length_cons, DpAll.len h2]
theorem DpAll.get {K : PySem.W.Frag} {H : Hp} : ∀ {ds : List PyData} {xs : List V} {i : Nat}, DpAll K H xs ds → (h : i < ds.length) → ∃ x, xs[i]? = some x ∧ Dp K H x ds[i]
  | [], _, i, _, h => by simp at h
  | d :: ds, _, 0, h, _ => by
    cases h with
    | cons h1 h2 => exact ⟨_, rfl, h1⟩
  | d :: ds, _, i + 1, h, hi => by
    cases h with
    | cons h1 h2 =>
      obtain ⟨x, e, q⟩ := DpAll.get (i := i) h2 (by simpa using hi)
      exact ⟨x, by simpa using e, by simpa using q⟩
def isLst : PyData → Bool | .list _ => true | _ => false
def isTup : PyData → Bool | .tuple _ => true | _ => false
def isSt : PyData → Bool | .str _ => true | _ => false
def isBo : PyData → Bool | .bool _ => true | _ => false
def isIn : PyData → Bool | .int _ => true | .bool _ => true | _ => false
def isNo : PyData → Bool | .none => true | _ => false
def its : PyData → List PyData | .list xs => xs | .tuple xs => xs | _ => []
def kindOf : PyData → String
  | .none => "NoneType" | .bool _ => "bool" | .int _ => "int" | .str _ => "str" | .list _ => "list" | .tuple _ => "tuple" | .dict _ => "dict"
theorem SqL.ty {K : PySem.W.Frag} {H : Hp} {a : Addr} {xs : List V} (h : SqL K H a xs) : TyX K H (.ref a) (.type "list") := by
  rcases h with (h | ⟨o, h⟩) | ⟨o, its, n, h, c, _⟩
  · exact .base (.lst h)
  · exact .base (.frz h)
  · exact .kList h c
theorem SqT.ty {K : PySem.W.Frag} {H : Hp} {a : Addr} {xs : List V} (h : SqT K H a xs) : TyX K H (.ref a) (.type "tuple") := by
  rcases h with (h | ⟨o, h⟩) | ⟨o, its, n, h, c, _⟩
  · exact .base (.tup h)
  · exact .fTuple h
  · exact .kTuple h c
theorem Dp.ty {K : PySem.W.Frag} {H : Hp} {x : V} {d : PyData} (h : Dp K H x d) : TyX K H x (.type (kindOf d)) := by
  cases h with
  | non => exact .base .non
  | bl b => exact .base (.bl b)
  | int i => exact .base (.int i)
  | str x => exact .base (.str x)
  | lst hs _ => exact SqL.ty hs
  | tup hs _ => exact SqT.ty hs
theorem Dp.nod {K : PySem.W.Frag} {H : Hp} {x : V} {d : PyData} (h : Dp K H x d) : ∀ kv, d ≠ .dict kv := by
  intro kv e
  subst e
  cases h
section
variable {K : PySem.W.Frag} {d : PyData} (nd : ∀ kv, d ≠ .dict kv)
include nd
theorem kit_lst : PySem.W.kitOne K (.type (kindOf d)) (.type "list") = some (isLst d) := by
  cases d with
  | none => exact kit_ty (a := "NoneType") (b := "list") (r := false) (by decide +kernel)
  | bool _ => exact kit_ty (a := "bool") (b := "list") (r := false) (by decide +kernel)
  | int _ => exact kit_ty (a := "int") (b := "list") (r := false) (by decide +kernel)
  | str _ => exact kit_ty (a := "str") (b := "list") (r := false) (by decide +kernel)
  | list _ => exact kit_ty (a := "list") (b := "list") (r := true) (by decide +kernel)
  | tuple _ => exact kit_ty (a := "tuple") (b := "list") (r := false) (by decide +kernel)
  | dict _ => exact absurd rfl (nd _)
theorem kit_str : PySem.W.kitOne K (.type (kindOf d)) (.type "str") = some (isSt d) := by
  cases d with
  | none => exact kit_ty (a := "NoneType") (b := "str") (r := false) (by decide +kernel)
  | bool _ => exact kit_ty (a := "bool") (b := "str") (r := false) (by decide +kernel)
  | int _ => exact kit_ty (a := "int") (b := "str") (r := false) (by decide +kernel)
  | str _ => exact kit_ty (a := "str") (b := "str") (r := true) (by decide +kernel)
  | list _ => exact kit_ty (a := "list") (b := "str") (r := false) (by decide +kernel)
  | tuple _ => exact kit_ty (a := "tuple") (b := "str") (r := false) (by decide +kernel)
  | dict _ => exact absurd rfl (nd _)
theorem kit_int : PySem.W.kitOne K (.type (kindOf d)) (.type "int") = some (isIn d) := by
  cases d with
  | none => exact kit_ty (a := "NoneType") (b := "int") (r := false) (by decide +kernel)
  | bool _ => exact kit_ty (a := "bool") (b := "int") (r := true) (by decide +kernel)
  | int _ => exact kit_ty (a := "int") (b := "int") (r := true) (by decide +kernel)
  | str _ => exact kit_ty (a := "str") (b := "int") (r := false) (by decide +kernel)
  | list _ => exact kit_ty (a := "list") (b := "int") (r := false) (by decide +kernel)
  | tuple _ => exact kit_ty (a := "tuple") (b := "int") (r := false) (by decide +kernel)
  | dict _ => exact absurd rfl (nd _)
theorem kit_bool : PySem.W.kitOne K (.type (kindOf d)) (.type "bool") = some (isBo d) := by
  cases d with
  | none => exact kit_ty (a := "NoneType") (b := "bool") (r := false) (by decide +kernel)
  | bool _ => exact kit_ty (a := "bool") (b := "bool") (r := true) (by decide +kernel)
  | int _ => exact kit_ty (a := "int") (b := "bool") (r := false) (by decide +kernel)
  | str _ => exact kit_ty (a := "str") (b := "bool") (r := false) (by decide +kernel)
  | list _ => exact kit_ty (a := "list") (b := "bool") (r := false) (by decide +kernel)
  | tuple _ => exact kit_ty (a := "tuple") (b := "bool") (r := false) (by decide +kernel)
  | dict _ => exact absurd rfl (nd _)
theorem kit_tup : PySem.W.kitOne K (.type (kindOf d)) (.type "tuple") = some (isTup d) := by
  cases d with
  | none => exact kit_ty (a := "NoneType") (b := "tuple") (r := false) (by decide +kernel)
  | bool _ => exact kit_ty (a := "bool") (b := "tuple") (r := false) (by decide +kernel)
  | int _ => exact kit_ty (a := "int") (b := "tuple") (r := false) (by decide +kernel)
  | str _ => exact kit_ty (a := "str") (b := "tuple") (r := false) (by decide +kernel)
  | list _ => exact kit_ty (a := "list") (b := "tuple") (r := false) (by decide +kernel)
  | tuple _ => exact kit_ty (a := "tuple") (b := "tuple") (r := true) (by decide +kernel)
  | dict _ => exact absurd rfl (nd _)
theorem kit_seq : PySem.W.kitAny K (.type (kindOf d)) [.type "tuple", .type "list"] = some (isTup d || isLst d) := by
  refine kitAny_cons (kit_tup nd) (fun h => ?_) (fun h => by rw [h]; rfl)
  refine kitAny_cons (kit_lst nd) (fun h2 => ?_) (fun h2 => by rw [h2, Bool.or_true])
  rw [h, h2]
  exact kitAny_nil
end
theorem Dp.seq {K : PySem.W.Frag} {H : Hp} {x : V} {d : PyData} (h : Dp K H x d) (s : (isTup d || isLst d) = true) : ∃ a xs, x = .ref a ∧ (SqL K H a xs ∨ SqT K H a xs) ∧ DpAll K H xs (its d) := by
  cases h with
  | lst hs ha => exact ⟨_, _, rfl, .inl hs, ha⟩
  | tup hs ha => exact ⟨_, _, rfl, .inr hs, ha⟩
  | _ => cases s
theorem its_eq {d e : PyData} (h1 : (isTup d || isLst d) = true) (h2 : (isTup e || isLst e) = true) (h : isLst d = isLst e) : d = e ↔ its d = its e := by
  constructor
  · intro q; rw [q]
  · intro q
    match d, e, h1, h2, h, q with
    | .list _, .list _, _, _, _, q => exact congrArg PyData.list q
    | .tuple _, .tuple _, _, _, _, q => exact congrArg PyData.tuple q
    | .list _, .tuple _, _, _, h, _ => cases h
    | .tuple _, .list _, _, _, h, _ => cases h
/-- at the places where two lists differ -/
theorem differ_at {α : Type} {l m : List α} {n : Nat} {ks : List Nat} (h1 : l.length = n) (h2 : m.length = n) (hk : ∀ k, k ∈ ks ↔ k < n ∧ l[k]? ≠ m[k]?) : ks = [] ↔ l = m := by
  constructor
  · intro e
    refine List.ext_getElem? fun k => ?_
    by_cases hlt : k < n
    · by_cases q : l[k]? = m[k]?
      · exact q
      · have := (hk k).mpr ⟨hlt, q⟩
        rw [e] at this
        cases this
    · rw [List.getElem?_eq_none (by omega), List.getElem?_eq_none (by omega)]
  · intro e
    cases ks with
    | nil => rfl
    | cons k ks => exact absurd (by rw [e]) ((hk k).mp List.mem_cons_self).2
abbrev s_law_alike : Stmt := top 38
abbrev n_law_alike : List Str := ["found", "due", "k"]
abbrev p_law_alike : List Str := ["found", "due"]
theorem sc_law_alike : FnScope n_law_alike p_law_alike (defScope s_law_alike) := ⟨rfl, rfl, rfl, by decide +kernel, rfl, by decide +kernel, by decide +kernel⟩
def spAlike (K : PySem.W.Frag) (n : Nat) : Sp := fun vs H Q _ => ∃ (x y : V) (d e : PyData), vs = [x, y] ∧ Dp K H x d ∧ Dp K H y e ∧ Pl 20 d ∧ Pl n e ∧ ∀ (b : Bool) (H' : Hp), (b = true ↔ d = e) → Same H H' → Q (.bl b) H'
theorem eqv_atom {d e : PyData} (hd : ∀ kv, d ≠ .dict kv) (he : (isTup e || isLst e) = false) (hb : isBo d = isBo e) : PyData.eqv d e = true ↔ d = e := by
  cases e <;> first | cases he | skip
  all_goals cases d <;> first | exact absurd rfl (hd _) | cases hb | skip
  all_goals simp [PyData.eqv]
section
variable {P : Program} {w : World} {K : PySem.W.Frag} {mg : Str → Option Value} {base : Heap}
/-- one round of it; what it calls within is of a lesser depth -/
theorem ok_alike_step {f : Addr} {fd : FuncData} {n k : Nat} (hn : n ≤ 20) (D : Dfn K mg "_law_alike" s_law_alike p_law_alike f fd) (B : Bi mg)
    (IH : ∃ sp0, FnOk P w K mg base CX0 k f fd p_law_alike sp0 ∧ ∀ vs H Q E, n ≠ 0 → spAlike K (n - 1) vs H Q E → sp0 vs H Q E) :
    FnOk P w K mg base CX0 (k + 1) f fd p_law_alike (spAlike K n) := by
  have nd := sc_law_alike.nd
  obtain ⟨sp0, G0, I0⟩ := IH
  refine D.F.ok sc_law_alike (fun vs H Q E h => ?_) (fun cdv A outer s H vs Q E hr h => ?_)
  · obtain ⟨x, y, d, e, rfl, _⟩ := h
    rfl
  · obtain ⟨x, y, d, e, rfl, hd, he, pd, pe, q⟩ := h
    refine ⟨_, pss_cons (ps_if (pt_val (pe_callB call_isiT (by rfl) B.isinstance (by decide +kernel) (pa_cons (pv 1) (pa_cons (pe_tup (pa_cons (pe_bltn (v := .ty "tuple") (by rfl) B.tuple (by decide +kernel) rfl) (pa_cons (pe_bltn (v := .ty "list") (by rfl) B.list (by decide +kernel) rfl) pa_nil))) pa_nil))))
        (pss_cons (ps_if (PW.pt (pw_or (pt_not (pt_val (pe_callB call_isiT (by rfl) B.isinstance (by decide +kernel) (pa_cons (pv 0) (pa_cons (pe_tup (pa_cons (pe_bltn (v := .ty "tuple") (by rfl) B.tuple (by decide +kernel) rfl) (pa_cons (pe_bltn (v := .ty "list") (by rfl) B.list (by decide +kernel) rfl) pa_nil))) pa_nil)))))
            (pw_or1 (pt_cmpR op_ne (pe_callB call_isi (by rfl) B.isinstance (by decide +kernel) (pa_cons (pv 0) (pa_cons (pe_bltn (v := .ty "list") (by rfl) B.list (by decide +kernel) rfl) pa_nil))) (pe_callB call_isi (by rfl) B.isinstance (by decide +kernel) (pa_cons (pv 1) (pa_cons (pe_bltn (v := .ty "list") (by rfl) B.list (by decide +kernel) rfl) pa_nil))) (nomark _)))))
            (pss_one (ps_ret pe_bl)) pss_nil)
        (pss_cons (ps_if (pt_cmpR op_ne (pe_callB call_len_seq (by rfl) B.len PySem.boot_len (pa_cons (pv 0) pa_nil)) (pe_callB call_len_seq (by rfl) B.len PySem.boot_len (pa_cons (pv 1) pa_nil)) (nomark _)) (pss_one (ps_ret pe_bl)) pss_nil)
        (pss_one (ps_ret (pe_cmpR (op_eqD hr.units)
          (pe_lc (own := [("k", 2)]) (g := gName 2) rfl nd (pi_range1 (by rfl) B.range (pa_cons (pe_callB call_len_seq (by rfl) B.len PySem.boot_len (pa_cons (pv 1) pa_nil)) pa_nil))
            (blkOk_by (N := n_law_alike) (sc := defScope s_law_alike) (by decide +kernel)) (fun _ _ _ _ _ => pg_name (i := 2) nd rfl (.inl rfl))
            (fun _ _ _ _ _ => pts_one (pt_not (pt_val (pe_call G0 hr (by rfl) D.g D.F.kp D.b .nil pass0 (pa_cons (pe_ix (r := rIx K) ix_seq (pv 0) (pv 2) (fun _ _ => rfl)) (pa_cons (pe_ix (r := rIx K) ix_seq (pv 1) (pv 2) (fun _ _ => rfl)) pa_nil))))))
            (fun _ _ _ _ _ => pv 2))
          (pe_lst pa_nil) (nomark _)))))) pss_nil)
      (pss_cons (ps_if (PW.pt (pw_or (pt_cmpR op_isN (pv 1) pe_non (nomark _)) (pw_or1 (pt_val (pe_callB call_isi (by rfl) B.isinstance (by decide +kernel) (pa_cons (pv 1) (pa_cons (pe_bltn (v := .ty "str") (by rfl) B.str (by decide +kernel) rfl) pa_nil)))))))
        (pss_one (ps_ret (pe_and (pe_cmpR (op_eqD hr.units) (pv 0) (pv 1) (nomark _)) (pe_one (pe_cmpR op_eq (pe_callB call_isi (by rfl) B.isinstance (by decide +kernel) (pa_cons (pv 0) (pa_cons (pe_bltn (v := .ty "str") (by rfl) B.str (by decide +kernel) rfl) pa_nil))) (pe_callB call_isi (by rfl) B.isinstance (by decide +kernel) (pa_cons (pv 1) (pa_cons (pe_bltn (v := .ty "str") (by rfl) B.str (by decide +kernel) rfl) pa_nil))) (nomark _)))))) pss_nil)
      (pss_one (ps_ret (pe_and (pe_callB call_isi (by rfl) B.isinstance (by decide +kernel) (pa_cons (pv 0) (pa_cons (pe_bltn (v := .ty "int") (by rfl) B.int (by decide +kernel) rfl) pa_nil)))
        (pe_and (pe_cmpR op_eq (pe_callB call_isi (by rfl) B.isinstance (by decide +kernel) (pa_cons (pv 0) (pa_cons (pe_bltn (v := .ty "bool") (by rfl) B.bool (by decide +kernel) rfl) pa_nil))) (pe_callB call_isi (by rfl) B.isinstance (by decide +kernel) (pa_cons (pv 1) (pa_cons (pe_bltn (v := .ty "bool") (by rfl) B.bool (by decide +kernel) rfl) pa_nil))) (nomark _))
        (pe_one (pe_cmpR (op_eqD hr.units) (pv 0) (pv 1) (nomark _)))))))), ?_⟩
    have nde := Dp.nod he
    have ndd := Dp.nod hd
    have clsp : Paired ClsV [V.ty "tuple", V.ty "list"] [Value.type "tuple", Value.type "list"] := .cons (.ty _) (.cons (.ty _) .nil)
    refine ⟨_, rfl, (by show 2 ≤ sizeLine; decide), fun tp htp => ?_⟩
    have s1 : Same H (upd H tp (.tup [V.ty "tuple", V.ty "list"])) := Same.new htp
    refine ⟨y, tp, _, _, _, _, rfl, upd_same, clsp, Dp.ty (Dp.same s1 e y he), kit_seq nde, _, rfl, ?_⟩
    generalize upd H tp (.tup [V.ty "tuple", V.ty "list"]) = H1 at s1
    by_cases se : (isTup e || isLst e) = true
    · rw [se]
      refine iteT ?_
      -- not isinstance(found, (tuple, list)) or ..
      refine ⟨_, rfl, (by show 2 ≤ sizeLine; decide), fun tq htq => ?_⟩
      have s2 : Same H (upd H1 tq (.tup [V.ty "tuple", V.ty "list"])) := s1.trans (Same.new htq)
      refine ⟨x, tq, _, _, _, _, rfl, upd_same, clsp, Dp.ty (Dp.same s2 d x hd), kit_seq ndd, _, rfl, ?_⟩
      generalize upd H1 tq (.tup [V.ty "tuple", V.ty "list"]) = H2 at s2
      by_cases sd : (isTup d || isLst d) = true
      · rw [sd]
        refine iteF ?_
        refine ⟨_, rfl, x, _, _, _, _, rfl, .ty _, Dp.ty (Dp.same s2 d x hd), kit_lst ndd, _, rfl, y, _, _, _, _, rfl, .ty _, Dp.ty (Dp.same s2 e y he), kit_lst nde, rfl, _, rfl, ?_⟩
        by_cases sl : isLst d = isLst e
        · have hh : (!decide (V.bl (isLst d) = V.bl (isLst e))) = false := by rw [sl, decide_eq_true rfl]; rfl
          rw [hh]
          refine iteF ?_
          -- len(found) != len(due)
          obtain ⟨a1, xs1, rfl, q1, dx1⟩ := Dp.seq (Dp.same s2 d x hd) sd
          obtain ⟨a2, xs2, rfl, q2, dx2⟩ := Dp.seq (Dp.same s2 e y he) se
          refine ⟨_, rfl, a1, xs1, rfl, q1, _, rfl, a2, xs2, rfl, q2, rfl, _, rfl, ?_⟩
          rw [DpAll.len dx1, DpAll.len dx2]
          by_cases ll : (its d).length = (its e).length
          · have hh2 : (!decide (V.int ((its d).length : Int) = V.int ((its e).length : Int))) = false := by rw [ll, decide_eq_true rfl]; rfl
            rw [hh2]
            refine iteF ?_
            have hlen : (its e).length ≤ 100000 := by
              match e, se, pe with
              | .list es, _, pe => cases n <;> first | exact pe.elim | exact pe.1
              | .tuple es, _, pe => cases n <;> first | exact pe.elim | exact pe.1
            have hn0 : n ≠ 0 := by
              intro z
              subst z
              match e, se, pe with
              | .list es, _, pe => exact pe
              | .tuple es, _, pe => exact pe
            have ite : ∀ z, z ∈ its e → Pl (n - 1) z := by
              match e, se, pe with
              | .list es, _, pe => cases n <;> first | exact pe.elim | exact pe.2
              | .tuple es, _, pe => cases n <;> first | exact pe.elim | exact pe.2
            have itd : ∀ z, z ∈ its d → Pl 20 z := by
              match d, sd, pd with
              | .list es, _, pd => exact fun z hz => Pl.succ _ _ (pd.2 z hz)
              | .tuple es, _, pd => exact fun z hz => Pl.succ _ _ (pd.2 z hz)
            refine ⟨_, rfl, a2, xs2, rfl, q2, _, rfl, by omega, by rw [DpAll.len dx2]; omega, fun Dl hD => ?_⟩
            have hDH : H2 Dl = none := hD
            refine lc_range (lo := 0) (n := xs2.length) (fun i H3 => ∃ ks : List Nat, H3 Dl = some (.lst (bV ks)) ∧ Same H2 H3 ∧ ks.length ≤ i ∧ ∀ k, k ∈ ks ↔ k < i ∧ (its d)[k]? ≠ (its e)[k]?) ?_ ?_ ?_
            · exact ⟨[], upd_same, Same.new hD, Nat.le_refl _, fun k => ⟨(fun z => nomatch z), fun z => absurd z.1 (Nat.not_lt_zero _)⟩⟩
            · rintro i H3 hi ⟨ks, hks, s3, hl, hk⟩
              rw [DpAll.len dx2] at hi
              obtain ⟨x1, g1, p1⟩ := DpAll.get (i := i) dx1 (by omega)
              obtain ⟨x2, g2, p2⟩ := DpAll.get (i := i) dx2 hi
              have w1 : (SqL K H3 a1 xs1 ∨ SqT K H3 a1 xs1) := q1.elim (fun z => .inl (s3.seq z)) fun z => .inr (Same.seqT s3 z)
              have w2 : (SqL K H3 a2 xs2 ∨ SqT K H3 a2 xs2) := q2.elim (fun z => .inl (s3.seq z)) fun z => .inr (Same.seqT s3 z)
              have at1 : atI xs1 (0 + (i : Int)) = some x1 := at_of (j := i) (by omega) g1
              have at2 : atI xs2 (0 + (i : Int)) = some x2 := at_of (j := i) (by omega) g2
              refine ⟨rfl, ?_⟩
              refine ⟨_, rfl, _, rfl, ?_⟩
              have step : ∀ {Q : V → Hp → Prop} {a : Addr} {xs : List V} {v : V}, (SqL K H3 a xs ∨ SqT K H3 a xs) → atI xs (0 + (i : Int)) = some v → Q v H3 → rIx K (.ref a) (.int (0 + (i : Int))) H3 Q := fun w g z => by
                rcases w with w | w
                · exact .inl ⟨_, _, _, _, rfl, rfl, w, g, z⟩
                · exact .inr (.inl ⟨_, _, _, _, rfl, rfl, w, g, z⟩)
              refine step w1 at1 ?_
              refine ⟨_, rfl, _, rfl, ?_⟩
              refine step w2 at2 ?_
              refine I0 _ _ _ _ hn0 ⟨x1, x2, _, _, rfl, Dp.same s3 _ _ p1, Dp.same s3 _ _ p2, itd _ (List.getElem_mem _), ite _ (List.getElem_mem _), fun b H4 hb s4 => ?_⟩
              have gd : (its d)[i]? = some ((its d)[i]'(by omega)) := List.getElem?_eq_getElem (by omega)
              have ge : (its e)[i]? = some (its e)[i] := List.getElem?_eq_getElem hi
              refine ⟨b, rfl, ?_⟩
              cases b with
              | true =>
                refine iteF ?_
                have eq := hb.mp rfl
                refine ⟨ks, s4 _ _ hks, s3.trans s4, Nat.le_succ_of_le hl, fun k => ?_⟩
                rw [hk k]
                constructor
                · rintro ⟨z1, z2⟩
                  exact ⟨Nat.lt_succ_of_lt z1, z2⟩
                · rintro ⟨z1, z2⟩
                  refine ⟨?_, z2⟩
                  rcases Nat.lt_succ_iff_lt_or_eq.mp z1 with z | z
                  · exact z
                  · subst z
                    exact absurd (by rw [gd, ge, eq]) z2
              | false =>
                refine iteT ?_
                have neq : (its d)[i]'(by omega) ≠ (its e)[i] := fun z => by cases (hb.mpr z)
                refine ⟨_, rfl, bV ks, s4 _ _ hks, ?_, ks ++ [i], ?_, ?_, ?_, fun k => ?_⟩
                · rw [bV_len]
                  exact Nat.lt_of_le_of_lt hl (Nat.lt_of_lt_of_le hi (Nat.le_trans hlen (by decide)))
                · rw [upd_same, bV_app, show (0 : Int) + (i : Int) = (i : Int) by omega]
                · exact fun c o z => by
                    rw [upd_ne (ne_of_none z hDH)]
                    exact (s3.trans s4) c o z
                · rw [List.length_append]
                  exact Nat.succ_le_succ hl
                · rw [List.mem_append, hk k]
                  constructor
                  · rintro (⟨z1, z2⟩ | z)
                    · exact ⟨Nat.lt_succ_of_lt z1, z2⟩
                    · have : k = i := by simpa using z
                      subst this
                      exact ⟨Nat.lt_succ_self _, fun z => neq (Option.some.inj (gd.symm.trans (z.trans ge)))⟩
                  · rintro ⟨z1, z2⟩
                    rcases Nat.lt_succ_iff_lt_or_eq.mp z1 with z | z
                    · exact .inl ⟨z, z2⟩
                    · exact .inr (by simp [z])
            · rintro H3 ⟨ks, hks, s3, hl, hk⟩
              rw [DpAll.len dx2] at hk
              refine ⟨Nat.zero_le _, fun p hp => ?_⟩
              have s5 : Same H3 (upd H3 p (.lst [])) := Same.new hp
              have dpi : ∀ (zs : List Nat) (Hx : Hp), DpAll K Hx (bV zs) (zs.map fun (z : Nat) => PyData.int (z : Int)) := by
                intro zs Hx
                induction zs with
                | nil => exact .nil
                | cons z zs ih => exact .cons (.int _) ih
              have pli : Pl 1 (.list (ks.map fun (z : Nat) => PyData.int (z : Int))) := ⟨by rw [List.length_map]; exact Nat.le_trans hl (by rw [DpAll.len dx2]; exact hlen), fun z hz => by
                obtain ⟨m, _, rfl⟩ := List.mem_map.mp hz
                exact True.intro⟩
              refine ⟨.list (ks.map fun (z : Nat) => PyData.int (z : Int)), .list [], .lst (SqL.of (s5 _ _ hks)) (dpi _ _), .lst (SqL.of upd_same) .nil, pli.shaped (by decide), rfl, ?_⟩
              refine q _ _ ?_ ((s2.trans s3).trans s5)
              rw [its_eq sd se sl, ← differ_at (n := (its e).length) ll rfl hk]
              cases ks with
              | nil => exact ⟨fun _ => rfl, fun _ => by simp [PyData.eqv, PyData.eqvAll]⟩
              | cons k ks => exact ⟨fun z => by simp [PyData.eqv, PyData.eqvAll] at z, fun z => by cases z⟩
          · have hh2 : (!decide (V.int ((its d).length : Int) = V.int ((its e).length : Int))) = true := by
              rw [decide_eq_false (fun z => ll (by injection z with z; omega))]; rfl
            rw [hh2]
            refine iteT ?_
            exact q false H2 ⟨(fun z => nomatch z), fun z => absurd (by rw [z]) ll⟩ s2
        · have hh : (!decide (V.bl (isLst d) = V.bl (isLst e))) = true := by
            rw [decide_eq_false (fun z => sl (by injection z))]; rfl
          rw [hh]
          refine iteT ?_
          exact q false H2 ⟨(fun z => nomatch z), fun z => absurd (by rw [z]) sl⟩ s2
      · rw [Bool.not_eq_true] at sd
        rw [sd]
        refine iteT ?_
        refine iteT ?_
        exact q false H2 ⟨(fun z => nomatch z), fun z => by rw [z, se] at sd; cases sd⟩ s2
    · rw [Bool.not_eq_true] at se
      rw [se]
      refine iteF ?_
      have s2 := s1
      have shd := pd.shaped (by decide)
      have she := pe.shaped (by omega)
      have hy : decide (y = V.non) = isNo e := by cases he <;> simp [isNo]
      have hstr : (isNo e || isSt e) = true → Q (V.bl (decide (V.bl (isSt d) = V.bl (isSt e)) && PyData.eqv d e)) H1 := fun z => by
        refine q _ _ ?_ s2
        match e, z with
        | .none, _ => cases d <;> simp [PyData.eqv, isSt]
        | .str _, _ => cases d <;> simp [PyData.eqv, isSt]
      have fin1 : (isNo e || isSt e) = true → (∃ c, V.bl (PyData.eqv d e) = V.bl c ∧ if c = true then tCB (rIsi K) (tCons (tVar 0) (tCons (tC (.ty "str")) tNil)) [some x, some y, none] H1 (fun u H2 => tCB (rIsi K) (tCons (tVar 1) (tCons (tC (.ty "str")) tNil)) [some x, some y, none] H2 fun v H3 => rEq u v H3 Q) else Q (.bl false) H1) := fun z => by
        have h1 := hstr z
        refine ⟨_, rfl, ?_⟩
        cases hv : PyData.eqv d e with
        | true =>
          refine iteT ?_
          rw [hv, Bool.and_true] at h1
          exact ⟨_, rfl, x, _, _, _, _, rfl, .ty _, Dp.ty (Dp.same s2 d x hd), kit_str ndd, _, rfl, y, _, _, _, _, rfl, .ty _, Dp.ty (Dp.same s2 e y he), kit_str nde, rfl, h1⟩
        | false =>
          refine iteF ?_
          rw [hv, Bool.and_false] at h1
          exact h1
      -- if due is None or isinstance(due, str)
      refine ⟨_, rfl, rfl, _, rfl, ?_⟩
      rw [hy]
      by_cases no : isNo e = true
      · rw [no]
        refine iteT ?_
        refine iteT ?_
        exact ⟨_, rfl, _, rfl, d, e, Dp.same s2 d x hd, Dp.same s2 e y he, shd, she, fin1 (by rw [no]; rfl)⟩
      · rw [Bool.not_eq_true] at no
        rw [no]
        refine iteF ?_
        refine ⟨_, rfl, y, _, _, _, _, rfl, .ty _, Dp.ty (Dp.same s2 e y he), kit_str nde, _, rfl, ?_⟩
        by_cases st : isSt e = true
        · rw [st]
          refine iteT ?_
          exact ⟨_, rfl, _, rfl, d, e, Dp.same s2 d x hd, Dp.same s2 e y he, shd, she, fin1 (by rw [st, Bool.or_true])⟩
        · rw [Bool.not_eq_true] at st
          rw [st]
          refine iteF ?_
          -- isinstance(found, int) and ..
          have ine : isIn e = true := by
            match e, se, no, st, nde with
            | .bool _, _, _, _, _ => rfl
            | .int _, _, _, _, _ => rfl
            | .dict kv, _, _, _, nde => exact absurd rfl (nde kv)
          refine ⟨_, rfl, x, _, _, _, _, rfl, .ty _, Dp.ty (Dp.same s2 d x hd), kit_int ndd, _, rfl, ?_⟩
          by_cases ind : isIn d = true
          · rw [ind]
            refine iteT ?_
            refine ⟨_, rfl, x, _, _, _, _, rfl, .ty _, Dp.ty (Dp.same s2 d x hd), kit_bool ndd, _, rfl, y, _, _, _, _, rfl, .ty _, Dp.ty (Dp.same s2 e y he), kit_bool nde, rfl, _, rfl, ?_⟩
            by_cases bb : isBo d = isBo e
            · rw [decide_eq_true (show V.bl (isBo d) = V.bl (isBo e) by rw [bb])]
              refine iteT ?_
              refine ⟨_, rfl, _, rfl, d, e, Dp.same s2 d x hd, Dp.same s2 e y he, shd, she, ?_⟩
              exact q _ _ (eqv_atom ndd se bb) s2
            · rw [decide_eq_false (show ¬ V.bl (isBo d) = V.bl (isBo e) from fun z => bb (by injection z))]
              refine iteF ?_
              exact q false H1 ⟨(fun z => nomatch z), fun z => absurd (by rw [z]) bb⟩ s2
          · rw [Bool.not_eq_true] at ind
            rw [ind]
            refine iteF ?_
            exact q false H1 ⟨(fun z => nomatch z), fun z => by rw [z, ine] at ind; cases ind⟩ s2
/-- alike at every depth to 20 -/
theorem ok_alike {f : Addr} {fd : FuncData} (D : Dfn K mg "_law_alike" s_law_alike p_law_alike f fd) (B : Bi mg) : ∀ n, n ≤ 20 → FnOk P w K mg base CX0 (n + 2) f fd p_law_alike (spAlike K n)
  | 0, hn => ok_alike_step hn D B ⟨fun _ _ _ _ => False, by
      obtain ⟨oc, od, kV, doc, pm, an, cdv, ct, osl, rfl, lk, hcd⟩ := D.F.ex
      exact D.F.ok (k := 0) sc_law_alike (fun vs H Q E h => h.elim) (fun cdv A outer s H vs Q E hr h => h.elim), fun vs H Q E h => absurd rfl h⟩
  | n + 1, hn => ok_alike_step hn D B ⟨spAlike K n, ok_alike D B n (by omega), fun vs H Q E _ h => h⟩
end
section
/-- bytes as data -/
def dI (l : List Nat) : List PyData := l.map fun (n : Nat) => PyData.int (n : Int)
theorem dI_all (K : PySem.W.Frag) (H : Hp) : ∀ l : List Nat, DpAll K H (bV l) (dI l)
  | [] => .nil
  | n :: l => .cons (.int _) (dI_all K H l)
theorem dI_pl {l : List Nat} (h : l.length ≤ 100000) : Pl 1 (.tuple (dI l)) := ⟨by unfold dI; rw [List.length_map]; exact h, fun z hz => by
  obtain ⟨m, _, rfl⟩ := List.mem_map.mp hz
  exact True.intro⟩
theorem dI_plL {l : List Nat} (h : l.length ≤ 100000) : Pl 1 (.list (dI l)) := ⟨by unfold dI; rw [List.length_map]; exact h, fun z hz => by
  obtain ⟨m, _, rfl⟩ := List.mem_map.mp hz
  exact True.intro⟩
theorem dI_inj : ∀ {l m : List Nat}, dI l = dI m → l = m
  | [], [], _ => rfl
  | [], _ :: _, h => by cases h
  | _ :: _, [], h => by cases h
  | a :: l, b :: m, h => by
    have h' : PyData.int (a : Int) :: dI l = PyData.int (b : Int) :: dI m := h
    injection h' with h1 h2
    injection h1 with h1
    rw [dI_inj h2, show a = b by omega]
theorem dI_eqvAll : ∀ l m : List Nat, PyData.eqvAll (dI l) (dI m) = decide (l = m)
  | [], [] => by simp [dI, PyData.eqvAll]
  | [], _ :: _ => by simp [dI, PyData.eqvAll]
  | _ :: _, [] => by simp [dI, PyData.eqvAll]
  | a :: l, b :: m => by
    have ih := dI_eqvAll l m
    show PyData.eqvAll (PyData.int (a : Int) :: dI l) (PyData.int (b : Int) :: dI m) = _
    simp only [PyData.eqvAll, PyData.eqv]
    rw [ih]
    by_cases h1 : a = b
    · subst h1
      simp
    · have : ¬ ((a : Int) = (b : Int)) := by omega
      simp [h1, this]
end
end K01
namespace K01
open PySem L2  RZ Cnt
/-! ### the program: counts -/
abbrev sis_between : Stmt := top 13
abbrev nis_between : List Str := ["value", "least", "most"]
abbrev pis_between : List Str := ["value", "least", "most"]
theorem scis_between : FnScope nis_between pis_between (defScope sis_between) := ⟨rfl, rfl, rfl, by decide +kernel, rfl, by decide +kernel, by decide +kernel⟩
def spBtw : Sp := fun vs H Q _ => ∃ (v a b : Int), vs = [.int v, .int a, .int b] ∧ Q (.bl (decide (a ≤ v ∧ v ≤ b))) H
section
variable {P : Program} {w : World} {K : PySem.W.Frag} {mg : Str → Option Value} {base : Heap}
theorem ok_btw {f : Addr} {fd : FuncData} (D : Dfn K mg "is_between" sis_between pis_between f fd) (B : Bi mg) : FnOk P w K mg base CX0 1 f fd pis_between spBtw := by
  have nd := scis_between.nd
  refine D.F.ok scis_between (fun vs H Q E h => ?_) (fun cdv A outer s H vs Q E hr h => ?_)
  · obtain ⟨v, a, b, rfl, _⟩ := h
    rfl
  · obtain ⟨v, a, b, rfl, q⟩ := h
    refine ⟨_, pss_one (ps_ret (pe_and (pe_cmpR op_isTyB (pe_callTy call_type1 (by rfl) B.type (by decide +kernel) (pa_cons (pv 0) pa_nil)) (pe_bltn (v := .ty "int") (by rfl) B.int (by decide +kernel) rfl) (nomark _))
      (pe_one (pe_chain op_le op_le (pv 1) (pv 0) (pv 2))))), ?_⟩
    refine ⟨_, rfl, _, "int", rfl, .int _, _, _, rfl, rfl, _, rfl, ?_⟩
    refine iteT ?_
    refine ⟨_, rfl, _, rfl, _, _, rfl, rfl, _, rfl, ?_⟩
    by_cases h1 : a ≤ v
    · rw [decide_eq_true h1]
      refine iteT ?_
      refine ⟨_, rfl, _, _, rfl, rfl, ?_⟩
      have e : decide (v ≤ b) = decide (a ≤ v ∧ v ≤ b) := by
        rw [decide_eq_decide]
        exact ⟨fun h => ⟨h1, h⟩, fun h => h.2⟩
      show Q (V.bl (decide (v ≤ b))) H
      rw [e]
      exact q
    · rw [decide_eq_false h1]
      refine iteF ?_
      have e : decide (a ≤ v ∧ v ≤ b) = false := decide_eq_false fun h => h1 h.1
      rw [e] at q
      exact q
end
/-! ### the program: is_octets -/
theorem FnOk.weak {P : Program} {w : World} {K : PySem.W.Frag} {mg : Str → Option Value} {base : Heap} {CX : CXT} {k : Nat} {f : Addr} {fd : FuncData} {ps : List Str} {s1 s2 : Sp} (F : FnOk P w K mg base CX k f fd ps s1) (h : ∀ vs H Q E, s2 vs H Q E → s1 vs H Q E) : FnOk P w K mg base CX k f fd ps s2 :=
  ⟨fun vs H Q E z => F.len vs H Q E (h vs H Q E z), fun A outer s H args us vs Q E hr he hb hv hs => F.run A outer s H args us vs Q E hr he hb hv (h vs H Q E hs)⟩
theorem FnOk.or {P : Program} {w : World} {K : PySem.W.Frag} {mg : Str → Option Value} {base : Heap} {CX : CXT} {k : Nat} {f : Addr} {fd : FuncData} {ps : List Str} {s1 s2 : Sp} (F1 : FnOk P w K mg base CX k f fd ps s1) (F2 : FnOk P w K mg base CX k f fd ps s2) :
    FnOk P w K mg base CX k f fd ps (fun vs H Q E => s1 vs H Q E ∨ s2 vs H Q E) :=
  ⟨fun vs H Q E h => h.elim (F1.len vs H Q E) (F2.len vs H Q E), fun A outer s H args us vs Q E hr he hb hv hs => hs.elim (F1.run A outer s H args us vs Q E hr he hb hv) (F2.run A outer s H args us vs Q E hr he hb hv)⟩
abbrev sis_octets : Stmt := top 14
abbrev nis_octets : List Str := ["value", "least", "most", "octet"]
abbrev pis_octets : List Str := ["value", "least", "most"]
theorem scis_octets : FnScope nis_octets pis_octets (defScope sis_octets) := ⟨rfl, rfl, rfl, by decide +kernel, rfl, by decide +kernel, by decide +kernel⟩
/-- values that are no octets, so many of them -/
inductive NoOct (K : PySem.W.Frag) (H : Hp) (le mo : Nat) : V → Prop where
  | kind {v : V} {T : String} (h : TyB K H v T) (n : T ≠ "tuple") : NoOct K H le mo v
  | len {a : Addr} {xs : List V} (h : SqT K H a xs) (n : xs.length < le ∨ mo < xs.length) : NoOct K H le mo (.ref a)
  | seq {a : Addr} {xs : List V} (ty : V → String) (h : SqT K H a xs) (hl : xs.length ≤ 100000) (hx : ∀ x, x ∈ xs → ∀ H', Same H H' → TyB K H' x (ty x))
      (e : (∃ x, x ∈ xs ∧ ty x ≠ "int") ∨ ∃ ns : List Int, xs = ns.map V.int ∧ (∀ x, x ∈ xs → ty x = "int") ∧ ∃ z, z ∈ ns ∧ (z < 0 ∨ 255 < z)) : NoOct K H le mo (.ref a)
/-- what is asked: a value, from so many, at most so many or no limit -/
def MostV (m : V) (mo : Nat) (n : Nat) : Prop := m = .non ∨ (m = .int (mo : Nat) ∧ n ≤ mo)
def spIsG (K : PySem.W.Frag) : Sp := fun vs H Q _ => ∃ (a : Addr) (l : List Nat) (le mo : Nat) (m : V), vs = [.ref a, .int le, m] ∧ MostV m mo l.length ∧ SqT K H a (bV l) ∧ Byt l ∧ le ≤ l.length ∧ l.length ≤ 100000 ∧ ∀ H', Same H H' → Q (.bl true) H'
def rIsT : R2 := fun x y H Q => ∃ a b, x = .ty a ∧ y = .ty b ∧ Q (.bl (decide (a = b))) H
theorem all_rep : ∀ (n : Nat), (List.replicate n true).all id = true
  | 0 => rfl
  | n + 1 => by
    rw [List.replicate_succ, List.all_cons, all_rep n]
    rfl
section
variable {P : Program} {w : World} {K : PySem.W.Frag} {mg : Str → Option Value} {base : Heap}
theorem ok_isG {f : Addr} {fd : FuncData} (D : Dfn K mg "is_octets" sis_octets pis_octets f fd) (B : Bi mg) : FnOk P w K mg base CX0 1 f fd pis_octets (spIsG K) := by
  have nd := scis_octets.nd
  refine D.F.ok scis_octets (fun vs H Q E h => ?_) (fun cdv A outer s H vs Q E hr h => ?_)
  · obtain ⟨a, l, le, mo, m, rfl, _⟩ := h
    rfl
  · obtain ⟨a, l, le, mo, m, rfl, hm, hs, hb, h1, h2, q⟩ := h
    refine ⟨_, pss_cons (ps_if (PW.pt (pw_or (pt_cmpR op_notTyB (pe_callTy call_type1 (by rfl) B.type (by decide +kernel) (pa_cons (pv 0) pa_nil)) (pe_bltn (v := .ty "tuple") (by rfl) B.tuple (by decide +kernel) rfl) (nomark _))
          (pw_or1 (pt_cmpR op_lt (pe_callB call_len_seq (by rfl) B.len PySem.boot_len (pa_cons (pv 0) pa_nil)) (pv 1) (nomark _)))))
        (pss_one (ps_ret pe_bl)) pss_nil)
      (pss_cons (ps_if (PW.pt (pw_and (pt_cmpR op_notN (pv 2) pe_non (nomark _)) (pw_and1 (pt_cmpR op_gt (pe_callB call_len_seq (by rfl) B.len PySem.boot_len (pa_cons (pv 0) pa_nil)) (pv 2) (nomark _)))))
        (pss_one (ps_ret pe_bl)) pss_nil)
      (pss_cons (ps_if (pt_not (pt_val (pe_callB (cr_all rfl) (by rfl) B.all (by decide +kernel) (pa_cons
          (pe_lc (own := [("octet", 3)]) (g := gName 3) (tt := tYes) (te := tOp rIsT (tCB (rTyp K) (tCons (tVar 3) tNil)) (tC (.ty "int"))) rfl nd (pi_tup (pv 0)) (blkOk_by (N := nis_octets) (sc := defScope sis_octets) (by decide +kernel)) (fun _ _ _ _ _ => pg_name (i := 3) nd rfl (.inl rfl)) (fun _ _ _ _ _ => pts_nil)
            (fun _ _ _ _ _ => by exact pe_cmpR op_isTyB (pe_callTy call_type1 (by rfl) B.type (by decide +kernel) (pa_cons (pv 3) pa_nil)) (pe_bltn (v := .ty "int") (by rfl) B.int (by decide +kernel) rfl) (nomark _))) pa_nil))))
        (pss_one (ps_ret pe_bl)) pss_nil)
      (pss_one (ps_ret (pe_or (pe_cmpR op_eq (pe_callB call_len_seq (by rfl) B.len PySem.boot_len (pa_cons (pv 0) pa_nil)) pe_int (nomark _))
        (pe_one (pe_and (pe_cmpR op_ge (pe_callB (cr_minT rfl) (by rfl) B.min (by decide +kernel) (pa_cons (pv 0) pa_nil)) pe_int (nomark _))
          (pe_one (pe_cmpR op_le (pe_callB (cr_maxT rfl) (by rfl) B.max (by decide +kernel) (pa_cons (pv 0) pa_nil)) pe_int (nomark _)))))))))), ?_⟩
    refine ⟨_, rfl, _, "tuple", rfl, .tup hs, _, _, rfl, rfl, _, rfl, ?_⟩
    refine iteF ?_
    refine ⟨_, rfl, a, _, rfl, .inr hs, _, rfl, _, _, rfl, rfl, _, rfl, ?_⟩
    rw [bV_len, decide_eq_false (show ¬ ((l.length : Int) < le) by omega)]
    refine iteF ?_
    rcases hm with rfl | ⟨rfl, hm⟩
    all_goals refine ⟨_, rfl, rfl, _, rfl, ?_⟩
    all_goals first
      | (refine iteT ?_
         refine ⟨_, rfl, a, _, rfl, .inr hs, _, rfl, _, _, rfl, rfl, _, rfl, ?_⟩
         rw [bV_len, decide_eq_false (show ¬ ((mo : Int) < l.length) by omega)]
         refine iteF ?_)
      | (refine iteF ?_
         refine iteF ?_)
    all_goals
      refine ⟨_, rfl, a, rfl, ⟨_, hs⟩, fun Dl hD => ?_⟩
      refine lc_tup (K := K) (a := a) (xs := bV l) (fun i H3 => H3 Dl = some (.lst ((List.replicate i true).map V.bl)) ∧ Same H H3) ⟨upd_same, Same.new hD⟩ (fun i H3 hi h => Same.seqT h.2 hs) ?_ ?_
      · rintro i x H3 hx ⟨hd3, s3⟩
        obtain ⟨n, hn, rfl⟩ := bV_get hx
        have hi : i < l.length := (List.getElem?_eq_some_iff.mp hn).1
        refine ⟨rfl, ?_⟩
        refine yes ?_
        refine ⟨_, rfl, _, "int", rfl, .int _, _, _, rfl, rfl, ?_⟩
        refine ⟨_, hd3, ?_, ?_, fun b u hb => ?_⟩
        · rw [List.length_map, List.length_replicate, sizeLine_eq]
          omega
        · rw [upd_same, List.replicate_succ', List.map_append]
          rfl
        · rw [upd_ne (ne_of_none hb hD)]
          exact s3 _ _ hb
      · rintro H3 ⟨hd3, s3⟩
        refine ⟨Dl, _, rfl, SqL.of hd3, _, rfl, ?_⟩
        rw [all_rep]
        refine iteF ?_
        have hs3 := Same.seqT s3 hs
        refine ⟨_, rfl, a, _, rfl, .inr hs3, rfl, _, rfl, ?_⟩
        rw [bV_len]
        by_cases c0 : l.length = 0
        · rw [show (decide (V.int ((l.length : Nat) : Int) = V.int 0)) = true by rw [c0]; rfl]
          refine iteT ?_
          exact q _ s3
        · rw [show (decide (V.int ((l.length : Nat) : Int) = V.int 0)) = false from decide_eq_false fun e => c0 (by injection e with e; omega)]
          refine iteF ?_
          have hz : SqT K H3 a ((l.map fun n : Nat => (n : Int)).map V.int) := by rw [List.map_map]; exact hs3
          refine ⟨_, rfl, a, _, rfl, hz, (by rw [List.length_map]; omega), fun m hm h1 => ?_⟩
          obtain ⟨n, hn, rfl⟩ := List.mem_map.mp hm
          refine ⟨_, _, rfl, rfl, _, rfl, ?_⟩
          rw [decide_eq_true (show (0 : Int) ≤ (n : Int) by omega)]
          refine iteT ?_
          refine ⟨_, rfl, a, _, rfl, hz, (by rw [List.length_map]; omega), fun m2 hm2 h2 => ?_⟩
          obtain ⟨n2, hn2, rfl⟩ := List.mem_map.mp hm2
          have hb2 := hb n2 hn2
          refine ⟨_, _, rfl, rfl, ?_⟩
          show Q (V.bl (decide ((n2 : Int) ≤ 255))) H3
          rw [decide_eq_true (show (n2 : Int) ≤ 255 by omega)]
          exact q _ s3
def spIsF (K : PySem.W.Frag) : Sp := fun vs H Q _ => ∃ (v : V) (le mo : Nat), vs = [v, .int le, .int mo] ∧ NoOct K H le mo v ∧ ∀ H', Same H H' → Q (.bl false) H'
theorem all_fls {l : List V} {g : V → Bool} {x : V} (hx : x ∈ l) (h : g x = false) : (l.map g).all id = false := by
  rw [List.all_eq_false]
  exact ⟨_, List.mem_map_of_mem hx, by rw [h]; exact Bool.false_ne_true⟩
theorem ok_isF {f : Addr} {fd : FuncData} (D : Dfn K mg "is_octets" sis_octets pis_octets f fd) (B : Bi mg) : FnOk P w K mg base CX0 1 f fd pis_octets (spIsF K) := by
  have nd := scis_octets.nd
  refine D.F.ok scis_octets (fun vs H Q E h => ?_) (fun cdv A outer s H vs Q E hr h => ?_)
  · obtain ⟨v, le, mo, rfl, _⟩ := h
    rfl
  · obtain ⟨v, le, mo, rfl, hv, q⟩ := h
    refine ⟨_, pss_cons (ps_if (PW.pt (pw_or (pt_cmpR op_notTyB (pe_callTy call_type1 (by rfl) B.type (by decide +kernel) (pa_cons (pv 0) pa_nil)) (pe_bltn (v := .ty "tuple") (by rfl) B.tuple (by decide +kernel) rfl) (nomark _))
          (pw_or1 (pt_cmpR op_lt (pe_callB call_len_seq (by rfl) B.len PySem.boot_len (pa_cons (pv 0) pa_nil)) (pv 1) (nomark _)))))
        (pss_one (ps_ret pe_bl)) pss_nil)
      (pss_cons (ps_if (PW.pt (pw_and (pt_cmpR op_notN (pv 2) pe_non (nomark _)) (pw_and1 (pt_cmpR op_gt (pe_callB call_len_seq (by rfl) B.len PySem.boot_len (pa_cons (pv 0) pa_nil)) (pv 2) (nomark _)))))
        (pss_one (ps_ret pe_bl)) pss_nil)
      (pss_cons (ps_if (pt_not (pt_val (pe_callB (cr_all rfl) (by rfl) B.all (by decide +kernel) (pa_cons
          (pe_lc (own := [("octet", 3)]) (g := gName 3) (tt := tYes) (te := tOp rIsT (tCB (rTyp K) (tCons (tVar 3) tNil)) (tC (.ty "int"))) rfl nd (pi_tup (pv 0)) (blkOk_by (N := nis_octets) (sc := defScope sis_octets) (by decide +kernel)) (fun _ _ _ _ _ => pg_name (i := 3) nd rfl (.inl rfl)) (fun _ _ _ _ _ => pts_nil)
            (fun _ _ _ _ _ => by exact pe_cmpR op_isTyB (pe_callTy call_type1 (by rfl) B.type (by decide +kernel) (pa_cons (pv 3) pa_nil)) (pe_bltn (v := .ty "int") (by rfl) B.int (by decide +kernel) rfl) (nomark _))) pa_nil))))
        (pss_one (ps_ret pe_bl)) pss_nil)
      (pss_one (ps_ret (pe_or (pe_cmpR op_eq (pe_callB call_len_seq (by rfl) B.len PySem.boot_len (pa_cons (pv 0) pa_nil)) pe_int (nomark _))
        (pe_one (pe_and (pe_cmpR op_ge (pe_callB (cr_minT rfl) (by rfl) B.min (by decide +kernel) (pa_cons (pv 0) pa_nil)) pe_int (nomark _))
          (pe_one (pe_cmpR op_le (pe_callB (cr_maxT rfl) (by rfl) B.max (by decide +kernel) (pa_cons (pv 0) pa_nil)) pe_int (nomark _)))))))))), ?_⟩
    cases hv with
    | @kind _ T ht n =>
      refine ⟨_, rfl, _, T, rfl, ht, _, _, rfl, rfl, _, rfl, ?_⟩
      rw [decide_eq_false n]
      refine iteT ?_
      exact q _ (fun _ _ z => z)
    | @len a xs hs n =>
      refine ⟨_, rfl, _, "tuple", rfl, .tup hs, _, _, rfl, rfl, _, rfl, ?_⟩
      refine iteF ?_
      refine ⟨_, rfl, a, _, rfl, .inr hs, _, rfl, _, _, rfl, rfl, _, rfl, ?_⟩
      by_cases h9 : (xs.length : Int) < le
      · rw [decide_eq_true h9]
        refine iteT ?_
        exact q _ (fun _ _ z => z)
      · rw [decide_eq_false h9]
        refine iteF ?_
        refine ⟨_, rfl, rfl, _, rfl, ?_⟩
        refine iteT ?_
        refine ⟨_, rfl, a, _, rfl, .inr hs, _, rfl, _, _, rfl, rfl, _, rfl, ?_⟩
        rw [decide_eq_true (show (mo : Int) < (xs.length : Int) by omega)]
        refine iteT ?_
        exact q _ (fun _ _ z => z)
    | @seq a xs ty hs hl hx e =>
      refine ⟨_, rfl, _, "tuple", rfl, .tup hs, _, _, rfl, rfl, _, rfl, ?_⟩
      refine iteF ?_
      refine ⟨_, rfl, a, _, rfl, .inr hs, _, rfl, _, _, rfl, rfl, _, rfl, ?_⟩
      by_cases h9 : (xs.length : Int) < le
      · rw [decide_eq_true h9]
        refine iteT ?_
        exact q _ (fun _ _ z => z)
      · rw [decide_eq_false h9]
        refine iteF ?_
        refine ⟨_, rfl, rfl, _, rfl, ?_⟩
        refine iteT ?_
        refine ⟨_, rfl, a, _, rfl, .inr hs, _, rfl, _, _, rfl, rfl, _, rfl, ?_⟩
        by_cases h8 : (mo : Int) < (xs.length : Int)
        · rw [decide_eq_true h8]
          refine iteT ?_
          exact q _ (fun _ _ z => z)
        · rw [decide_eq_false h8]
          refine iteF ?_
          refine ⟨_, rfl, a, rfl, ⟨_, hs⟩, fun Dl hD => ?_⟩
          refine lc_tup (K := K) (a := a) (xs := xs) (fun i H3 => H3 Dl = some (.lst (((xs.take i).map fun x => decide (ty x = "int")).map V.bl)) ∧ Same H H3) ⟨upd_same, Same.new hD⟩ (fun i H3 hi h => Same.seqT h.2 hs) ?_ ?_
          · rintro i x H3 hi ⟨hd3, s3⟩
            have hil : i < xs.length := (List.getElem?_eq_some_iff.mp hi).1
            refine ⟨rfl, ?_⟩
            refine yes ?_
            refine ⟨_, rfl, _, ty x, rfl, hx x (List.mem_of_getElem? hi) H3 s3, _, _, rfl, rfl, ?_⟩
            refine ⟨_, hd3, ?_, ?_, fun b u hb => ?_⟩
            · rw [List.length_map, List.length_map, List.length_take, sizeLine_eq]
              omega
            · rw [upd_same, take_more hi, List.map_append, List.map_append]
              rfl
            · rw [upd_ne (ne_of_none hb hD)]
              exact s3 _ _ hb
          · rintro H3 ⟨hd3, s3⟩
            rw [take_all] at hd3
            refine ⟨Dl, _, rfl, SqL.of hd3, _, rfl, ?_⟩
            rcases e with ⟨x, hxm, hne⟩ | ⟨ns, rfl, hint, z, hz, hbad⟩
            · rw [all_fls (g := fun x => decide (ty x = "int")) hxm (decide_eq_false hne)]
              refine iteT ?_
              exact q _ s3
            · have hall : ((ns.map V.int).map fun x => decide (ty x = "int")).all id = true := by
                rw [List.all_eq_true]
                intro b hb
                obtain ⟨x, hxm, rfl⟩ := List.mem_map.mp hb
                exact decide_eq_true (hint x hxm)
              rw [hall]
              refine iteF ?_
              have hs3 := Same.seqT s3 hs
              have hn0 : 0 < ns.length := List.length_pos_of_mem hz
              refine ⟨_, rfl, a, _, rfl, .inr hs3, rfl, _, rfl, ?_⟩
              rw [List.length_map]
              rw [show (decide (V.int ((ns.length : Nat) : Int) = V.int 0)) = false from decide_eq_false fun e => by injection e with e; omega]
              refine iteF ?_
              refine ⟨_, rfl, a, _, rfl, hs3, hn0, fun m hm h1 => ?_⟩
              refine ⟨_, _, rfl, rfl, _, rfl, ?_⟩
              by_cases c1 : (0 : Int) ≤ m
              · rw [decide_eq_true c1]
                refine iteT ?_
                refine ⟨_, rfl, a, _, rfl, hs3, hn0, fun m2 hm2 h2 => ?_⟩
                refine ⟨_, _, rfl, rfl, ?_⟩
                show Q (V.bl (decide (m2 ≤ 255))) H3
                have hz1 := h1 z hz
                have hz2 := h2 z hz
                rw [decide_eq_false (show ¬ m2 ≤ 255 by omega)]
                exact q _ s3
              · rw [decide_eq_false c1]
                refine iteF ?_
                exact q _ s3
end
abbrev scount_octets : Stmt := top 17
abbrev ncount_octets : List Str := ["number", "octets"]
abbrev pcount_octets : List Str := ["number"]
theorem sccount_octets : FnScope ncount_octets pcount_octets (defScope scount_octets) := ⟨rfl, rfl, rfl, by decide +kernel, rfl, by decide +kernel, by decide +kernel⟩
def spCO : Sp := fun vs H Q _ => ∃ n : Nat, vs = [.int n] ∧ n < 2 ^ 63 ∧ ∀ (p : Addr) (H' : Hp), Same H H' → H p = none → H' p = some (.tup (bV (cOct n))) → Q (.ref p) H'
theorem and127 (n : Nat) : Builtin.bitAnd (n : Int) 127 = ((n % 128 : Nat) : Int) := by
  have e : Builtin.bitAnd (n : Int) 127 = ((n &&& 127 : Nat) : Int) := aN n 127
  rw [e]
  congr 1
  exact Nat.and_two_pow_sub_one_eq_mod n 7
theorem shr7 (n : Nat) : (n : Int) / 2 ^ (7 : Int).toNat = ((n / 128 : Nat) : Int) := by
  rw [show (7 : Int) = ((7 : Nat) : Int) from rfl, shrN, Nat.shiftRight_eq_div_pow]
section
variable {P : Program} {w : World} {K : PySem.W.Frag} {mg : Str → Option Value} {base : Heap}
theorem ok_co {f : Addr} {fd : FuncData} (D : Dfn K mg "count_octets" scount_octets pcount_octets f fd) (B : Bi mg) : FnOk P w K mg base CX0 1 f fd pcount_octets spCO := by
  have nd := sccount_octets.nd
  refine D.F.ok sccount_octets (fun vs H Q E h => ?_) (fun cdv A outer s H vs Q E hr h => ?_)
  · obtain ⟨n, rfl, _⟩ := h
    rfl
  · obtain ⟨n, rfl, hn, q⟩ := h
    refine ⟨_, pss_cons (ps_set (i := 1) nd rfl (.inl rfl) (pe_lst pa_nil))
      (pss_cons (ps_while PassesOwn.never (pt_cmpR op_gt (pv 0) pe_int (nomark _))
        (pss_cons (ps_expr (pe_bm PySem.F.plainAttrs_list PySem.F.slot_list_append PySem.F.type_list_append mt_append (pv 1) (pa_cons (pe_op op_add pe_int (pe_op op_and (pv 0) pe_int)) pa_nil)))
        (pss_one (ps_aug (i := 0) nd rfl (.inl rfl) pe_int (fun pins s σ H x y v u Q I r1 r2 h => iop_shr pins s σ H x y v u Q I r1 r2 h)))))
      (pss_cons (ps_expr (pe_bm PySem.F.plainAttrs_list PySem.F.slot_list_append PySem.F.type_list_append mt_append (pv 1) (pa_cons (pv 0) pa_nil)))
      (pss_one (ps_ret (pe_callTy call_tuple_of (by rfl) B.tuple (by decide +kernel) (pa_cons (pv 1) pa_nil)))))), ?_⟩
    refine ⟨Nat.zero_le _, fun o no => ?_⟩
    refine ⟨fun m σ H1 => ∃ (z : Nat) (l : List Nat), m = z ∧ σ = [some (.int z), some (.ref o)] ∧ l ++ cOct z = cOct n ∧ l.length ≤ 9 ∧ Same H H1 ∧ H1 o = some (.lst (bV l)), ⟨n, n, [], rfl, rfl, rfl, by decide, Same.new no, upd_same⟩, ?_⟩
    have hlen : (cOct n).length ≤ 9 := cOct_len 8 n (by rw [show (128 : Nat) = 2 ^ 7 from rfl, ← Nat.pow_mul]; exact hn)
    rintro z σ H1 ⟨_, l, rfl, rfl, e, hl, s1, ho⟩
    refine ⟨_, rfl, _, _, rfl, rfl, _, rfl, ?_⟩
    by_cases c : z < 128
    · rw [decide_eq_false (show ¬ ((127 : Int) < (z : Int)) by omega)]
      refine iteF ?_
      rw [cOct_lt c] at e
      refine ⟨_, rfl, .inl ⟨rfl, _, SqL.of ho⟩, _, rfl, o, _, _, rfl, rfl, ho, ?_, ?_⟩
      · rw [bV_len]
        exact Nat.lt_of_le_of_lt hl (by decide)
      · have hnew : upd H1 o (.lst (bV l ++ [.int (z : Int)])) o = some (.lst (bV (cOct n))) := by
          rw [upd_same, ← bV_app, e]
        refine ⟨_, rfl, o, _, rfl, .inl ⟨SqL.of hnew, fun p np => ?_⟩⟩
        have hpo : p ≠ o := fun z => by
          rw [z, hnew] at np
          cases np
        have np1 : H1 p = none := by
          rw [upd_ne hpo] at np
          exact np
        refine q p _ (fun b u hb => ?_) (s1.free np1) upd_same
        rw [upd_ne (ne_of_none (s1 _ _ hb) np1), upd_ne (ne_of_none hb no)]
        exact s1 _ _ hb
    · rw [decide_eq_true (show (127 : Int) < (z : Int) by omega)]
      refine iteT ?_
      rw [cOct_ge c] at e
      have hl9 : l.length < 9 := by
        have := congrArg List.length e
        rw [List.length_append, List.length_cons] at this
        omega
      refine ⟨fun σ' H' => σ' = [some (.int ((z / 128 : Nat) : Int)), some (.ref o)] ∧ Same H H' ∧ H' o = some (.lst (bV (l ++ [128 + z % 128]))), ?_, ?_⟩
      · rintro σ' H' ⟨rfl, s2, h2⟩
        exact ⟨z / 128, by omega, z / 128, _, rfl, rfl, by rw [← e]; simp, by rw [List.length_append]; show l.length + 1 ≤ 9; omega, s2, h2⟩
      · refine ⟨_, rfl, .inl ⟨rfl, _, SqL.of ho⟩, _, rfl, _, _, rfl, rfl, _, _, rfl, rfl, o, _, _, rfl, rfl, ho, ?_, ?_⟩
        · rw [bV_len]
          exact Nat.lt_trans hl9 (by decide)
        · refine ⟨_, rfl, _, _, rfl, rfl, (by show (0 : Int) ≤ 7; decide), ?_⟩
          refine ⟨?_, fun b u hb => ?_, ?_⟩
          · show [some (V.int ((z : Int) / 2 ^ (7 : Int).toNat)), _] = _
            rw [shr7]
          · rw [upd_ne (ne_of_none hb no)]
            exact s1 _ _ hb
          · rw [upd_same, bV_app]
            show some (HO.lst (bV l ++ [V.int (128 + Builtin.bitAnd (z : Int) 127)])) = _
            rw [and127]
            rfl
end
abbrev scheck_reading : Stmt := top 24
abbrev ncheck_reading : List Str := ["octets", "at"]
abbrev pcheck_reading : List Str := ["octets", "at"]
theorem sccheck_reading : FnScope ncheck_reading pcheck_reading (defScope scheck_reading) := ⟨rfl, rfl, rfl, by decide +kernel, rfl, by decide +kernel, by decide +kernel⟩
def spCR (K : PySem.W.Frag) : Sp := fun vs H Q _ => ∃ (a : Addr) (l : List Nat) (z : Nat), vs = [.ref a, .int z] ∧ SqT K H a (bV l) ∧ Byt l ∧ z ≤ l.length ∧ l.length ≤ 100000 ∧ ∀ H', Same H H' → Q .non H'
section
variable {P : Program} {w : World} {K : PySem.W.Frag} {mg : Str → Option Value} {base : Heap}
theorem ok_cr {f fB fC : Addr} {fd fdB fdC : FuncData} (D : Dfn K mg "check_reading" scheck_reading pcheck_reading f fd) (B : Bi mg) (DB : Dfn K mg "is_between" sis_between pis_between fB fdB) (DC : Dfn K mg "is_octets" sis_octets pis_octets fC fdC) :
    FnOk P w K mg base CX0 2 f fd pcheck_reading (spCR K) := by
  have nd := sccheck_reading.nd
  have GB : FnOk P w K mg base CX0 1 fB fdB pis_between spBtw := ok_btw DB B
  have GC : FnOk P w K mg base CX0 1 fC fdC pis_octets (spIsG K) := ok_isG DC B
  refine D.F.ok sccheck_reading (fun vs H Q E h => ?_) (fun cdv A outer s H vs Q E hr h => ?_)
  · obtain ⟨a, l, z, rfl, _⟩ := h
    rfl
  · obtain ⟨a, l, z, rfl, hs, hb, hz, hl, q⟩ := h
    refine ⟨_, pss_cons (ps_if (pt_not (pt_val (pe_call GC hr (by rfl) DC.g DC.F.kp DC.b .nil pass0 (pa_cons (pv 0) (pa_cons pe_int (pa_cons pe_non pa_nil)))))) (pss_one ps_never) pss_nil)
      (pss_one (ps_if (pt_not (pt_val (pe_call GB hr (by rfl) DB.g DB.F.kp DB.b .nil pass0 (pa_cons (pv 1) (pa_cons pe_int (pa_cons (pe_callB call_len_seq (by rfl) B.len PySem.boot_len (pa_cons (pv 0) pa_nil)) pa_nil)))))) (pss_one ps_never) pss_nil)), ?_⟩
    refine ⟨_, rfl, a, l, 0, 0, .non, rfl, .inl rfl, hs, hb, Nat.zero_le _, hl, fun H1 s1 => ?_⟩
    refine ⟨_, rfl, ?_⟩
    refine iteF ?_
    refine ⟨_, rfl, _, rfl, a, _, rfl, .inr (Same.seqT s1 hs), _, _, _, rfl, _, rfl, ?_⟩
    rw [bV_len, decide_eq_true (show (0 : Int) ≤ (z : Int) ∧ (z : Int) ≤ (l.length : Int) by omega)]
    refine iteF ?_
    exact q _ s1
end
/-! ### the program: a count that is read -/
structure ShTxt (K : PySem.W.Frag) (mg : Str → Option Value) (x : Str) (C : Addr) : Prop where
  g : mg x = some (.ref C)
  k : PySem.W.keepIn K (.ref C) = true
  q : PySem.W.excIn K C [.type "ValueError", .type "Exception", .type "BaseException", .type "object"] "ValueError.__new__" = true
  ex : PySem.W.subIn K (.ref C) (.type "BaseException") = some true
  ty : PySem.W.typeIn K (.ref C) = some (.type "type")
theorem small_log {n : Int} (h0 : 0 ≤ n) (h : n < 2 ^ 63) : n.natAbs.log2 < 1920 := by
  have h2 : n.natAbs < 2 ^ 1920 := Nat.lt_of_lt_of_le (show n.natAbs < 2 ^ 63 by omega) (Nat.pow_le_pow_right (by decide) (by decide))
  by_cases z : n.natAbs = 0
  · rw [z]
    decide
  · exact (Nat.log2_lt z).mpr h2
/-- what is answered, or raised -/
def RQ (CW CS : Addr) (H : Hp) (Q : VK) (E : XK) : R → Prop
  | .done n b => ∀ (p : Addr) (H' : Hp), Same H H' → H p = none → H' p = some (.tup [.int n, .int b]) → Q (.ref p) H'
  | .short => ∀ (H' : Hp), Same H H' → E (.ref CS) none H'
  | .wrong z => ∀ (d : Addr) (H' : Hp), Same H H' → H d = none → H' d = some (.xd [("place", .int z)]) → E (.ref CW) (some d) H'
abbrev scount_from : Stmt := top 20
abbrev ncount_from : List Str := ["octets", "at", "number", "group", "place", "octet"]
abbrev pcount_from : List Str := ["octets", "at"]
theorem sccount_from : FnScope ncount_from pcount_from (defScope scount_from) := ⟨rfl, rfl, rfl, by decide +kernel, rfl, by decide +kernel, by decide +kernel⟩
def spCF (K : PySem.W.Frag) (CW CS : Addr) : Sp := fun vs H Q E => ∃ (a : Addr) (l : List Nat) (z : Nat), vs = [.ref a, .int z] ∧ SqT K H a (bV l) ∧ Byt l ∧ z ≤ l.length ∧ l.length ≤ 100000 ∧ RQ CW CS H Q E (cFrom l z)
theorem get_some {l : List Nat} {i : Nat} (h : i < l.length) : l[i]? = some (l.getD i 0) := by
  rw [List.getD_eq_getElem?_getD, List.getElem?_eq_getElem h]
  rfl
theorem shl_mul (a g : Nat) : (a : Int) * 2 ^ ((7 : Int) * ((0 : Int) + (g : Int))).toNat = ((a * 2 ^ (7 * g) : Nat) : Int) := by
  have e : ((7 : Int) * ((0 : Int) + (g : Int))).toNat = 7 * g := by omega
  rw [e]
  simp
section
variable {P : Program} {w : World} {K : PySem.W.Frag} {mg : Str → Option Value} {base : Heap} {CW CS fI : Addr}
theorem ok_cf {f : Addr} {fd : FuncData} (D : Dfn K mg "count_from" scount_from pcount_from f fd) (B : Bi mg) (MO : ∃ t, mg "MOST_OCTETS_OF_COUNT" = some (.int 9 t)) (TW : PySem.WrX.WrTxt P K mg "Wrong" CW fI) (TS : ShTxt K mg "Short" CS) :
    FnOk P w K mg base (L2.CX P w) 3 f fd pcount_from (spCF K CW CS) := by
  have nd := sccount_from.nd
  obtain ⟨to, hmo⟩ := MO
  refine D.F.okX sccount_from (fun vs H Q E h => ?_) (fun cdv A outer s H vs Q E hr h => ?_)
  · obtain ⟨a, l, z, rfl, _⟩ := h
    rfl
  · obtain ⟨a, l, z, rfl, hs, hb, hz, hl, q⟩ := h
    refine ⟨_, pss_cons (ps_set (i := 2) nd rfl (.inl rfl) pe_int)
      (pss_cons (ps_for (passes_of rfl) rfl (pi_range1 (by rfl) B.range (pa_cons (pe_glob (v := .int 9) rfl hmo ⟨_, rfl⟩) pa_nil)) (pg_name (i := 3) nd rfl (.inl rfl))
        (pss_cons (ps_set (i := 4) nd rfl (.inl rfl) (pe_op op_add (pv 1) (pv 3)))
        (pss_cons (ps_if (pt_cmpR op_ge (pv 4) (pe_callB call_len_seq (by rfl) B.len PySem.boot_len (pa_cons (pv 0) pa_nil)) (nomark _)) (pss_one (ps_raise rfl (takes_of rfl rfl rfl rfl) (pmk_own PySem.F.excBase_ValueError TS.q TS.g TS.k (raises_own TS.ex TS.ty) (by rfl)))) pss_nil)
        (pss_cons (ps_set (i := 5) nd rfl (.inl rfl) (pe_ix ix_tup (pv 0) (pv 4) (fun _ _ => rfl)))
        (pss_cons (ps_if (pt_cmpR op_lt (pv 5) pe_int (nomark _))
          (pss_cons (ps_if (PW.pt (pw_and (pt_cmpR op_eq (pv 5) pe_int (nomark _)) (pw_and1 (pt_cmpR op_gt (pv 3) pe_int (nomark _))))) (pss_one (ps_raiseWr rfl TW hr (takes_of rfl rfl rfl rfl) (by exact (pa_cons (pv 4) pa_nil)) (by rfl))) pss_nil)
          (pss_one (ps_ret (pe_tup (pa_cons (pe_op op_add (pv 2) (pe_op op_shl (pv 5) (pe_op op_mul pe_int (pv 3)))) (pa_cons (pe_op op_add (pv 4) pe_int) pa_nil)))))) pss_nil)
        (pss_one (ps_aug (i := 2) nd rfl (.inl rfl) (pe_op op_shl (pe_op op_sub (pv 5) pe_int) (pe_op op_mul pe_int (pv 3))) ip_add)))))))
      (pss_one (ps_raiseWr rfl TW hr (takes_of rfl rfl rfl rfl) (by exact (pa_cons (pe_op op_sub (pe_op op_add (pv 1) (pe_glob (v := .int 9) rfl hmo ⟨_, rfl⟩)) pe_int) pa_nil)) (by rfl)))), ?_⟩
    refine ⟨9, rfl, by decide, by decide, ?_⟩
    refine for_range (n := 9) (fun i σ H1 => ∃ (num : Nat) (v3 v4 v5 : Option V), σ = [some (.ref a), some (.int z), some (.int num), v3, v4, v5] ∧ i ≤ 9 ∧ cRun l z i num (9 - i) = cFrom l z ∧ H = H1) ⟨0, none, none, none, rfl, by decide, rfl, rfl⟩ ?_ ?_
    · rintro g σ H1 hi ⟨num, v3, v4, v5, rfl, hg, e, rfl⟩
      rw [show 9 - g = (9 - (g + 1)) + 1 by omega, cRun] at e
      refine ⟨_, rfl, _, rfl, _, _, rfl, rfl, ?_⟩
      refine ⟨_, rfl, _, rfl, a, _, rfl, .inr hs, _, _, rfl, rfl, _, rfl, ?_⟩
      rw [bV_len]
      by_cases c0 : l.length ≤ z + g
      · rw [decide_eq_true (show (l.length : Int) ≤ (z : Int) + (0 + (g : Int)) by omega)]
        refine iteT ?_
        rw [if_pos c0] at e
        rw [← e] at q
        exact q _ (fun _ _ z => z)
      · rw [decide_eq_false (show ¬ (l.length : Int) ≤ (z : Int) + (0 + (g : Int)) by omega)]
        refine iteF ?_
        rw [if_neg c0] at e
        have hget := get_some (l := l) (i := z + g) (by omega)
        have ho := hb _ (List.mem_of_getElem? hget)
        generalize l.getD (z + g) 0 = o at e hget ho
        refine ⟨_, rfl, _, rfl, a, _, _, _, rfl, rfl, hs, at_of (j := z + g) (by omega) (bV_at hget), ?_⟩
        refine ⟨_, rfl, _, _, rfl, rfl, _, rfl, ?_⟩
        by_cases c1 : o < 128
        · rw [decide_eq_true (show (o : Int) < 128 by omega)]
          refine iteT ?_
          rw [if_pos c1] at e
          refine ⟨_, rfl, rfl, _, int_eq0 o, ?_⟩
          have fin : ¬ (o = 0 ∧ 0 < g) → ∀ (p : Addr), H p = none → Q (.ref p) (upd H p (.tup [.int ((num : Int) + (o : Int) * 2 ^ ((7 : Int) * ((0 : Int) + (g : Int))).toNat), .int ((z : Int) + (0 + (g : Int)) + 1)])) := fun c p hp => by
            rw [if_neg c] at e
            rw [← e] at q
            refine q p _ (Same.new hp) hp ?_
            rw [upd_same, shl_mul]
            rw [show (z : Int) + (0 + (g : Int)) + 1 = ((z + g + 1 : Nat) : Int) by omega]
            rfl
          by_cases c2 : o = 0
          · rw [decide_eq_true c2]
            refine iteT ?_
            refine ⟨_, rfl, _, _, rfl, rfl, _, rfl, ?_⟩
            by_cases c3 : 0 < g
            · rw [decide_eq_true (show (0 : Int) < 0 + (g : Int) by omega)]
              refine iteT ?_
              rw [if_pos ⟨c2, c3⟩] at e
              rw [← e] at q
              refine ⟨_, rfl, _, rfl, small_log (by omega) (by omega), fun d hd => ?_⟩
              refine q d _ (Same.new hd) hd ?_
              rw [upd_same]
              show some (HO.xd [("place", V.int ((z : Int) + (0 + (g : Int))))]) = some (HO.xd [("place", V.int ((z + g : Nat) : Int))])
              rw [show ((z : Int) + (0 + (g : Int))) = ((z + g : Nat) : Int) by omega]
            · rw [decide_eq_false (show ¬ (0 : Int) < 0 + (g : Int) by omega)]
              refine iteF ?_
              refine ⟨_, rfl, _, rfl, _, rfl, _, _, rfl, rfl, .inl ⟨by decide, by decide⟩, _, _, rfl, rfl, ⟨by omega, by omega, by omega⟩, _, _, rfl, rfl, _, rfl, _, _, rfl, rfl, (by show 2 ≤ sizeLine; decide), fun p hp => fin (fun c => c3 c.2) p hp⟩
          · rw [decide_eq_false c2]
            refine iteF ?_
            refine ⟨_, rfl, _, rfl, _, rfl, _, _, rfl, rfl, .inl ⟨by decide, by decide⟩, _, _, rfl, rfl, ⟨by omega, by omega, by omega⟩, _, _, rfl, rfl, _, rfl, _, _, rfl, rfl, (by show 2 ≤ sizeLine; decide), fun p hp => fin (fun c => c2 c.1) p hp⟩
        · rw [decide_eq_false (show ¬ (o : Int) < 128 by omega)]
          refine iteF ?_
          rw [if_neg c1] at e
          refine ⟨_, rfl, _, rfl, _, _, rfl, rfl, _, rfl, _, _, rfl, rfl, .inl ⟨by decide, by decide⟩, _, _, rfl, rfl, ⟨by omega, by omega, by omega⟩, _, _, rfl, rfl, ?_⟩
          refine ⟨num + (o - 128) * 2 ^ (7 * g), some (.int (0 + (g : Int))), some (.int ((z : Int) + (0 + (g : Int)))), some (.int (o : Int)), ?_, by omega, by rw [← e], rfl⟩
          have e2 : ((o : Int) - 128) = ((o - 128 : Nat) : Int) := by omega
          show [some (V.ref a), some (V.int (z : Int)), some (V.int ((num : Int) + ((o : Int) - 128) * 2 ^ ((7 : Int) * ((0 : Int) + (g : Int))).toNat)), some (.int (0 + (g : Int))), some (.int ((z : Int) + (0 + (g : Int)))), some (.int (o : Int))] = _
          rw [e2, shl_mul]
          rfl
    · rintro σ H1 ⟨num, v3, v4, v5, rfl, hg, e, rfl⟩
      rw [← e] at q
      refine ⟨_, rfl, _, _, rfl, rfl, _, _, rfl, rfl, _, rfl, small_log (by omega) (by omega), fun d hd => ?_⟩
      refine q d _ (Same.new hd) hd ?_
      rw [upd_same]
      show some (HO.xd [("place", V.int ((z : Int) + 9 - 1))]) = some (HO.xd [("place", V.int ((z + 9 - 1 : Nat) : Int))])
      rw [show ((z : Int) + 9 - 1) = ((z + 9 - 1 : Nat) : Int) by omega]
end
/-! ### the law's groups of a count -/
theorem cut_take {l : List V} {k : Nat} (h : k ≤ l.length) : cutV l none (some (k : Int)) = l.take k := by
  have e : HT.sIx l.length l.length (some (k : Int)) = k := by
    show (if (k : Int) < 0 then ((k : Int) + (l.length : Int)).toNat else min (k : Int).toNat l.length) = k
    rw [if_neg (by omega)]
    omega
  unfold cutV
  rw [HT.sIx_none, e, List.drop_zero, Nat.sub_zero]
theorem bV_take (l : List Nat) (k : Nat) : (bV l).take k = bV (l.take k) := by
  unfold bV
  rw [List.map_take]
abbrev s_law_groups : Stmt := top 39
abbrev n_law_groups : List Str := ["number", "found", "turn", "one"]
abbrev p_law_groups : List Str := ["number"]
theorem sc_law_groups : FnScope n_law_groups p_law_groups (defScope s_law_groups) := ⟨rfl, rfl, rfl, by decide +kernel, rfl, by decide +kernel, by decide +kernel⟩
section
variable {P : Program} {w : World} {K : PySem.W.Frag} {mg : Str → Option Value} {base : Heap}
theorem digs_at (n m : Nat) : atI (bV (digs n (m + 1))) ((m : Nat) : Int) = some (.int ((n / 128 ^ m % 128 : Nat) : Int)) := by
  refine at_of (j := m) rfl (bV_at ?_)
  rw [digs_end, List.getElem?_append_right (by rw [digs_len]; exact Nat.le_refl _), digs_len, Nat.sub_self]
  rfl
theorem shr_dig (n i : Nat) : ((n : Int) / 2 ^ ((7 : Int) * ((0 : Int) + (i : Int))).toNat).fmod 128 = ((n / 128 ^ i % 128 : Nat) : Int) := by
  have e : ((7 : Int) * ((0 : Int) + (i : Int))).toNat = 7 * i := by omega
  rw [e, show (128 : Nat) ^ i = 2 ^ (7 * i) by rw [show (128 : Nat) = 2 ^ 7 from rfl, ← Nat.pow_mul]]
  rw [Int.fmod_eq_emod_of_nonneg _ (by decide)]
  simp
theorem ok_lg {f : Addr} {fd : FuncData} (D : Dfn K mg "_law_groups" s_law_groups p_law_groups f fd) (B : Bi mg) : FnOk P w K mg base CX0 1 f fd p_law_groups spCO := by
  have nd := sc_law_groups.nd
  refine D.F.ok sc_law_groups (fun vs H Q E h => ?_) (fun cdv A outer s H vs Q E hr h => ?_)
  · obtain ⟨n, rfl, _⟩ := h
    rfl
  · obtain ⟨n, rfl, hn, q⟩ := h
    refine ⟨_, pss_cons (ps_set (i := 1) nd rfl (.inl rfl) (pe_lst pa_nil))
      (pss_cons (ps_for PassesOwn.never rfl (pi_range1 (by rfl) B.range (pa_cons pe_int pa_nil)) (pg_name (i := 2) nd rfl (.inl rfl))
        (pss_one (ps_expr (pe_bm PySem.F.plainAttrs_list PySem.F.slot_list_append PySem.F.type_list_append mt_append (pv 1) (pa_cons (pe_op op_modN (pe_callTy call_int1 (by rfl) B.int (by decide +kernel) (pa_cons (pe_op op_shr (pv 0) (pe_op op_mul pe_int (pv 2))) pa_nil)) pe_int) pa_nil)))))
      (pss_cons (ps_while PassesOwn.never (PW.pt (pw_and (pt_cmpR op_gt (pe_callB call_len_seq (by rfl) B.len PySem.boot_len (pa_cons (pv 1) pa_nil)) pe_int (nomark _))
            (pw_and1 (pt_cmpR op_eq (pe_ix ix_list (pv 1) (pe_op op_sub (pe_callB call_len_seq (by rfl) B.len PySem.boot_len (pa_cons (pv 1) pa_nil)) pe_int) (fun _ _ => rfl)) pe_int (nomark _)))))
        (pss_one (ps_set (i := 1) nd rfl (.inl rfl) (pe_slice sl_list (pv 1) po_none (po_some (pe_op op_sub (pe_callB call_len_seq (by rfl) B.len PySem.boot_len (pa_cons (pv 1) pa_nil)) pe_int))))))
      (pss_one (ps_ret (pe_op op_catA
        (pe_callTy call_tuple_of (by rfl) B.tuple (by decide +kernel) (pa_cons
          (pe_lc (own := [("one", 3)]) (g := gName 3) (tt := tYes) rfl nd (pi_list (pe_slice sl_list (pv 1) po_none (po_some (pe_op op_sub (pe_callB call_len_seq (by rfl) B.len PySem.boot_len (pa_cons (pv 1) pa_nil)) pe_int))))
            (blkOk_by (N := n_law_groups) (sc := defScope s_law_groups) (by decide +kernel)) (fun _ _ _ _ _ => pg_name (i := 3) nd rfl (.inl rfl)) (fun _ _ _ _ _ => pts_nil)
            (fun _ _ _ _ _ => pe_op op_add (pv 3) pe_int)) pa_nil))
        (pe_tup (pa_cons (pe_ix ix_list (pv 1) (pe_op op_sub (pe_callB call_len_seq (by rfl) B.len PySem.boot_len (pa_cons (pv 1) pa_nil)) pe_int) (fun _ _ => rfl)) pa_nil))))))), ?_⟩
    refine ⟨Nat.zero_le _, fun o no => ?_⟩
    refine ⟨9, rfl, by decide, by decide, ?_⟩
    refine for_range (n := 9) (fun i σ H1 => ∃ v2 : Option V, σ = [some (.int n), some (.ref o), v2, none] ∧ Same H H1 ∧ H1 o = some (.lst (bV (digs n i)))) ⟨none, rfl, Same.new no, upd_same⟩ ?_ ?_
    · rintro i σ H1 hi ⟨v2, rfl, s1, ho⟩
      refine ⟨_, rfl, .inl ⟨rfl, _, SqL.of ho⟩, _, rfl, _, rfl, _, _, rfl, rfl, .inl ⟨by decide, by decide⟩, _, _, rfl, rfl, (by show (0 : Int) ≤ 7 * (0 + (i : Int)); omega), .inl ⟨_, rfl, _, _, rfl, rfl, (by show (128 : Int) ≠ 0; decide), o, _, _, rfl, rfl, ho, ?_, ?_⟩⟩
      · rw [bV_len, digs_len]
        exact Nat.lt_trans hi (by decide)
      · refine ⟨_, rfl, fun b u hb => ?_, ?_⟩
        · rw [upd_ne (ne_of_none hb no)]
          exact s1 _ _ hb
        · rw [upd_same, digs_end, bV_app]
          show some (HO.lst (bV (digs n i) ++ [V.int (((n : Int) / 2 ^ ((7 : Int) * ((0 : Int) + (i : Int))).toNat).fmod 128)])) = _
          rw [shr_dig]
    · rintro σ H1 ⟨v2, rfl, s1, ho⟩
      refine ⟨fun k σ H2 => ∃ (m : Nat) (p : Addr), k = m ∧ σ = [some (.int n), some (.ref p), v2, none] ∧ m ≤ 8 ∧ n < 128 ^ (m + 1) ∧ Same H H2 ∧ H2 p = some (.lst (bV (digs n (m + 1)))), ⟨8, 8, o, rfl, rfl, by decide, ?_, s1, ho⟩, ?_⟩
      · rw [show (128 : Nat) = 2 ^ 7 from rfl, ← Nat.pow_mul]
        exact hn
      clear s1 ho
      rintro m σ H2 ⟨_, p, rfl, rfl, hm, hlt, s2, hp⟩
      have sq := SqL.of (K := K) hp
      have eix : ((bV (digs n (m + 1))).length : Int) - 1 = ((m : Nat) : Int) := by
        rw [bV_len, digs_len]
        omega
      have hcut : cutV (bV (digs n (m + 1))) none (some (((bV (digs n (m + 1))).length : Int) - 1)) = bV (digs n m) := by
        rw [eix, cut_take (by rw [bV_len, digs_len]; omega), bV_take, digs_end, List.take_left' (digs_len n m)]
      refine ⟨_, rfl, p, _, rfl, .inl sq, _, _, rfl, rfl, _, rfl, ?_⟩
      rw [bV_len, digs_len]
      by_cases c1 : 0 < m
      · rw [decide_eq_true (show (1 : Int) < ((m + 1 : Nat) : Int) by omega)]
        refine iteT ?_
        refine ⟨_, rfl, _, rfl, p, _, rfl, .inl sq, _, _, rfl, rfl, p, _, _, _, rfl, rfl, sq, (by rw [eix]; exact digs_at n m), rfl, _, int_eq0 (n / 128 ^ m % 128), ?_⟩
        by_cases c2 : n / 128 ^ m % 128 = 0
        · rw [decide_eq_true c2]
          refine iteT ?_
          refine ⟨fun σ' H' => ∃ t : Addr, σ' = [some (.int n), some (.ref t), v2, none] ∧ Same H H' ∧ H' t = some (.lst (bV (digs n m))), ?_, ?_⟩
          · rintro σ' H' ⟨t, rfl, s3, h3⟩
            obtain ⟨j, rfl⟩ : ∃ j, m = j + 1 := ⟨m - 1, by omega⟩
            exact ⟨j, by omega, j, t, rfl, rfl, by omega, digs_stay hlt c2, s3, h3⟩
          · refine ⟨_, rfl, _, rfl, p, _, rfl, .inl sq, _, _, rfl, rfl, _, rfl, p, _, rfl, sq, fun t ht => ⟨_, rfl, s2.trans (Same.new ht), ?_⟩⟩
            rw [upd_same]
            exact congrArg (fun z => some (HO.lst z)) hcut
        · rw [decide_eq_false c2]
          refine iteF ?_
          refine ⟨_, rfl, _, rfl, p, _, rfl, .inl sq, _, _, rfl, rfl, _, rfl, p, _, rfl, sq, fun t ht => ⟨t, rfl, ⟨_, SqL.of upd_same⟩, fun Dl hD => ?_⟩⟩
          have ht3 : upd H2 t (.lst (cutV (bV (digs n (m + 1))) none (some (((bV (digs n (m + 1))).length : Int) - 1)))) t = some (.lst (bV (digs n m))) := by
            rw [upd_same]
            exact congrArg (fun z => some (HO.lst z)) hcut
          have s3 : Same H2 (upd H2 t (.lst (cutV (bV (digs n (m + 1))) none (some (((bV (digs n (m + 1))).length : Int) - 1))))) := Same.new ht
          have hDt : Dl ≠ t := fun z => by
            rw [z, ht3] at hD
            cases hD
          have hD2 : H2 Dl = none := s3.free hD
          refine lc_list (K := K) (a := t) (xs := bV (digs n m)) (fun i H4 => Same H2 H4 ∧ H4 t = some (.lst (bV (digs n m))) ∧ H4 Dl = some (.lst (bV (((digs n m).take i).map (· + 128))))) ?_ ?_ ?_ ?_
          · exact ⟨s3.trans (Same.new hD), by rw [upd_ne hDt.symm]; exact ht3, upd_same⟩
          · rintro i H4 hi ⟨_, h1, _⟩
            exact SqL.of h1
          · rintro i x H4 hx ⟨s4, h1, h2⟩
            obtain ⟨y, hy, rfl⟩ := bV_get hx
            have hi : i < m := by
              have := (List.getElem?_eq_some_iff.mp hy).1
              rw [digs_len] at this
              exact this
            refine ⟨rfl, ?_⟩
            refine yes ?_
            refine ⟨_, rfl, _, _, rfl, rfl, _, h2, ?_, fun b u hb => ?_, ?_, ?_⟩
            · rw [bV_len, List.length_map, List.length_take]
              exact Nat.lt_of_le_of_lt (Nat.min_le_left _ _) (Nat.lt_of_lt_of_le (show i < 10 by omega) (by decide))
            · rw [upd_ne (ne_of_none hb hD2)]
              exact s4 b u hb
            · rw [upd_ne hDt.symm]
              exact h1
            · rw [upd_same, take_more hy, List.map_append]
              show _ = some (HO.lst (bV (_ ++ [y + 128])))
              rw [bV_app]
              rfl
          · rintro H4 ⟨s4, h1, h2⟩
            rw [bV_len, take_all] at h2
            refine ⟨Dl, _, rfl, .inl ⟨SqL.of h2, fun c nc => ?_⟩⟩
            have s5 : Same H4 (upd H4 c (.tup (bV ((digs n m).map (· + 128))))) := Same.new nc
            have sq5 := SqL.of (K := K) (s5 _ _ (s4 _ _ hp))
            refine ⟨_, rfl, _, rfl, p, _, rfl, .inl sq5, _, _, rfl, rfl, p, _, _, _, rfl, rfl, sq5, (by rw [eix]; exact digs_at n m), (by show 1 ≤ sizeLine; decide), fun e ne => ?_⟩
            have hce : c ≠ e := fun z => by
              rw [← z, upd_same] at ne
              cases ne
            have s6 : Same (upd H4 c (.tup (bV ((digs n m).map (· + 128))))) (upd (upd H4 c (.tup (bV ((digs n m).map (· + 128))))) e (.tup [V.int ((n / 128 ^ m % 128 : Nat) : Int)])) := Same.new ne
            have hx := digs_oct m n hlt (.inr (digs_stop c2))
            refine ⟨c, e, bV ((digs n m).map (· + 128)), bV [n / 128 ^ m % 128], rfl, rfl, .inl (.inl (s6 _ _ upd_same)), .inl (.inl upd_same), ?_, fun z => ?_, fun _ z => ?_, fun _ _ p2 np2 => ?_⟩
            · rw [bV_len, bV_len, List.length_map, digs_len]
              exact Nat.le_trans (show m + 1 ≤ 9 by omega) (by decide)
            · have z' : (digs n m).map (· + 128) = [] := by
                have := congrArg List.length z
                rw [bV_len] at this
                exact List.eq_nil_of_length_eq_zero this
              rw [z'] at hx
              refine q e _ ((s2.trans s4).trans (s5.trans s6)) (((s2.trans s4).trans s5).free ne) ?_
              rw [upd_same, ← hx]
              rfl
            · cases z
            · refine q p2 _ (((s2.trans s4).trans (s5.trans s6)).trans (Same.new np2)) (((s2.trans s4).trans (s5.trans s6)).free np2) ?_
              rw [upd_same, bV_append, hx]
      · rw [decide_eq_false (show ¬ (1 : Int) < ((m + 1 : Nat) : Int) by omega)]
        refine iteF ?_
        refine ⟨_, rfl, _, rfl, p, _, rfl, .inl sq, _, _, rfl, rfl, _, rfl, p, _, rfl, sq, fun t ht => ⟨t, rfl, ⟨_, SqL.of upd_same⟩, fun Dl hD => ?_⟩⟩
        have ht3 : upd H2 t (.lst (cutV (bV (digs n (m + 1))) none (some (((bV (digs n (m + 1))).length : Int) - 1)))) t = some (.lst (bV (digs n m))) := by
          rw [upd_same]
          exact congrArg (fun z => some (HO.lst z)) hcut
        have s3 : Same H2 (upd H2 t (.lst (cutV (bV (digs n (m + 1))) none (some (((bV (digs n (m + 1))).length : Int) - 1))))) := Same.new ht
        have hDt : Dl ≠ t := fun z => by
          rw [z, ht3] at hD
          cases hD
        have hD2 : H2 Dl = none := s3.free hD
        refine lc_list (K := K) (a := t) (xs := bV (digs n m)) (fun i H4 => Same H2 H4 ∧ H4 t = some (.lst (bV (digs n m))) ∧ H4 Dl = some (.lst (bV (((digs n m).take i).map (· + 128))))) ?_ ?_ ?_ ?_
        · exact ⟨s3.trans (Same.new hD), by rw [upd_ne hDt.symm]; exact ht3, upd_same⟩
        · rintro i H4 hi ⟨_, h1, _⟩
          exact SqL.of h1
        · rintro i x H4 hx ⟨s4, h1, h2⟩
          obtain ⟨y, hy, rfl⟩ := bV_get hx
          have hi : i < m := by
            have := (List.getElem?_eq_some_iff.mp hy).1
            rw [digs_len] at this
            exact this
          refine ⟨rfl, ?_⟩
          refine yes ?_
          refine ⟨_, rfl, _, _, rfl, rfl, _, h2, ?_, fun b u hb => ?_, ?_, ?_⟩
          · rw [bV_len, List.length_map, List.length_take]
            exact Nat.lt_of_le_of_lt (Nat.min_le_left _ _) (Nat.lt_of_lt_of_le (show i < 10 by omega) (by decide))
          · rw [upd_ne (ne_of_none hb hD2)]
            exact s4 b u hb
          · rw [upd_ne hDt.symm]
            exact h1
          · rw [upd_same, take_more hy, List.map_append]
            show _ = some (HO.lst (bV (_ ++ [y + 128])))
            rw [bV_app]
            rfl
        · rintro H4 ⟨s4, h1, h2⟩
          rw [bV_len, take_all] at h2
          refine ⟨Dl, _, rfl, .inl ⟨SqL.of h2, fun c nc => ?_⟩⟩
          have s5 : Same H4 (upd H4 c (.tup (bV ((digs n m).map (· + 128))))) := Same.new nc
          have sq5 := SqL.of (K := K) (s5 _ _ (s4 _ _ hp))
          refine ⟨_, rfl, _, rfl, p, _, rfl, .inl sq5, _, _, rfl, rfl, p, _, _, _, rfl, rfl, sq5, (by rw [eix]; exact digs_at n m), (by show 1 ≤ sizeLine; decide), fun e ne => ?_⟩
          have hce : c ≠ e := fun z => by
            rw [← z, upd_same] at ne
            cases ne
          have s6 : Same (upd H4 c (.tup (bV ((digs n m).map (· + 128))))) (upd (upd H4 c (.tup (bV ((digs n m).map (· + 128))))) e (.tup [V.int ((n / 128 ^ m % 128 : Nat) : Int)])) := Same.new ne
          have hx := digs_oct m n hlt (.inl (by omega))
          refine ⟨c, e, bV ((digs n m).map (· + 128)), bV [n / 128 ^ m % 128], rfl, rfl, .inl (.inl (s6 _ _ upd_same)), .inl (.inl upd_same), ?_, fun z => ?_, fun _ z => ?_, fun _ _ p2 np2 => ?_⟩
          · rw [bV_len, bV_len, List.length_map, digs_len]
            exact Nat.le_trans (show m + 1 ≤ 9 by omega) (by decide)
          · have z' : (digs n m).map (· + 128) = [] := by
              have := congrArg List.length z
              rw [bV_len] at this
              exact List.eq_nil_of_length_eq_zero this
            rw [z'] at hx
            refine q e _ ((s2.trans s4).trans (s5.trans s6)) (((s2.trans s4).trans s5).free ne) ?_
            rw [upd_same, ← hx]
            rfl
          · cases z
          · refine q p2 _ (((s2.trans s4).trans (s5.trans s6)).trans (Same.new np2)) (((s2.trans s4).trans (s5.trans s6)).free np2) ?_
            rw [upd_same, bV_append, hx]
end
abbrev s_law_count_due : Stmt := top 42
abbrev n_law_count_due : List Str := ["octets", "at", "found", "turn", "octet"]
abbrev p_law_count_due : List Str := ["octets", "at"]
theorem sc_law_count_due : FnScope n_law_count_due p_law_count_due (defScope s_law_count_due) := ⟨rfl, rfl, rfl, by decide +kernel, rfl, by decide +kernel, by decide +kernel⟩
def dueV : R → List V
  | .done n b => [.str "done", .int n, .int b]
  | .short => [.str "short"]
  | .wrong p => [.str "wrong", .int p]
def spDue (K : PySem.W.Frag) : Sp := fun vs H Q _ => ∃ (a : Addr) (l : List Nat) (z : Nat), vs = [.ref a, .int z] ∧ SqT K H a (bV l) ∧ Byt l ∧ ∀ (p : Addr) (H' : Hp), Same H H' → H p = none → H' p = some (.tup (dueV (cFrom l z))) → Q (.ref p) H'
section
variable {P : Program} {w : World} {K : PySem.W.Frag} {mg : Str → Option Value} {base : Heap}
theorem ok_due {f : Addr} {fd : FuncData} (D : Dfn K mg "_law_count_due" s_law_count_due p_law_count_due f fd) (B : Bi mg) : FnOk P w K mg base CX0 1 f fd p_law_count_due (spDue K) := by
  have nd := sc_law_count_due.nd
  refine D.F.ok sc_law_count_due (fun vs H Q E h => ?_) (fun cdv A outer s H vs Q E hr h => ?_)
  · obtain ⟨a, l, z, rfl, _⟩ := h
    rfl
  · obtain ⟨a, l, z, rfl, hs, hb, q⟩ := h
    refine ⟨_, pss_cons (ps_set (i := 2) nd rfl (.inl rfl) pe_int)
      (pss_cons (ps_for PassesOwn.never rfl (pi_range1 (by rfl) B.range (pa_cons pe_int pa_nil)) (pg_name (i := 3) nd rfl (.inl rfl))
        (pss_cons (ps_if (pt_cmpR op_ge (pe_op op_add (pv 1) (pv 3)) (pe_callB call_len_seq (by rfl) B.len PySem.boot_len (pa_cons (pv 0) pa_nil)) (nomark _)) (pss_one (ps_ret (pe_tup (pa_cons pe_str pa_nil)))) pss_nil)
        (pss_cons (ps_set (i := 4) nd rfl (.inl rfl) (pe_ix ix_tup (pv 0) (pe_op op_add (pv 1) (pv 3)) (fun _ _ => rfl)))
        (pss_cons (ps_if (PW.pt (pw_and (pt_cmpR op_gt (pv 4) pe_int (nomark _)) (pw_and1 (pt_cmpR op_eq (pv 3) pe_int (nomark _))))) (pss_one (ps_ret (pe_tup (pa_cons pe_str (pa_cons (pe_op op_add (pv 1) (pv 3)) pa_nil))))) pss_nil)
        (pss_cons (ps_if (pt_cmpR op_lt (pv 4) pe_int (nomark _))
          (pss_cons (ps_if (PW.pt (pw_and (pt_cmpR op_eq (pv 4) pe_int (nomark _)) (pw_and1 (pt_cmpR op_gt (pv 3) pe_int (nomark _))))) (pss_one (ps_ret (pe_tup (pa_cons pe_str (pa_cons (pe_op op_add (pv 1) (pv 3)) pa_nil))))) pss_nil)
          (pss_one (ps_ret (pe_tup (pa_cons pe_str (pa_cons (pe_op op_add (pv 2) (pe_op op_shl (pv 4) (pe_op op_mul pe_int (pv 3)))) (pa_cons (pe_op op_add (pe_op op_add (pv 1) (pv 3)) pe_int) pa_nil))))))) pss_nil)
        (pss_one (ps_set (i := 2) nd rfl (.inl rfl) (pe_op op_add (pv 2) (pe_op op_shl (pe_op op_sub (pv 4) pe_int) (pe_op op_mul pe_int (pv 3)))))))))))
      (pss_one (ps_ret (pe_tup (pa_cons pe_str pa_nil))))), ?_⟩
    refine ⟨10, rfl, by decide, by decide, ?_⟩
    refine for_range (n := 10) (fun i σ H1 => ∃ (num : Nat) (v3 v4 : Option V), σ = [some (.ref a), some (.int z), some (.int num), v3, v4] ∧ i ≤ 8 ∧ cRun l z i num (9 - i) = cFrom l z ∧ H = H1) ⟨0, none, none, rfl, by decide, rfl, rfl⟩ ?_ ?_
    · rintro g σ H1 hi ⟨num, v3, v4, rfl, hg, e, rfl⟩
      rw [show 9 - g = (8 - g) + 1 by omega, cRun] at e
      refine ⟨_, rfl, _, rfl, _, _, rfl, rfl, _, rfl, a, _, rfl, .inr hs, _, _, rfl, rfl, _, rfl, ?_⟩
      rw [bV_len]
      by_cases c0 : l.length ≤ z + g
      · rw [decide_eq_true (show (l.length : Int) ≤ (z : Int) + (0 + (g : Int)) by omega)]
        refine iteT ?_
        rw [if_pos c0] at e
        rw [← e] at q
        exact ⟨(by show 1 ≤ sizeLine; decide), fun p hp => q p _ (Same.new hp) hp upd_same⟩
      · rw [decide_eq_false (show ¬ (l.length : Int) ≤ (z : Int) + (0 + (g : Int)) by omega)]
        refine iteF ?_
        rw [if_neg c0] at e
        have hget := get_some (l := l) (i := z + g) (by omega)
        have ho := hb _ (List.mem_of_getElem? hget)
        generalize l.getD (z + g) 0 = o at e hget ho
        have ew : (z : Int) + (0 + (g : Int)) = ((z + g : Nat) : Int) := by omega
        refine ⟨_, rfl, _, rfl, _, rfl, _, _, rfl, rfl, a, _, _, _, rfl, rfl, hs, at_of (j := z + g) ew (bV_at hget), ?_⟩
        refine ⟨_, rfl, _, _, rfl, rfl, _, rfl, ?_⟩
        by_cases c1 : o < 128
        · rw [decide_eq_false (show ¬ (127 : Int) < (o : Int) by omega)]
          refine iteF ?_
          rw [if_pos c1] at e
          refine ⟨_, rfl, _, _, rfl, rfl, _, rfl, ?_⟩
          rw [decide_eq_true (show (o : Int) < 128 by omega)]
          refine iteT ?_
          refine ⟨_, rfl, rfl, _, int_eq0 o, ?_⟩
          have fin : ¬ (o = 0 ∧ 0 < g) → ∀ (p : Addr), H p = none → Q (.ref p) (upd H p (.tup [.str "done", .int ((num : Int) + (o : Int) * 2 ^ ((7 : Int) * ((0 : Int) + (g : Int))).toNat), .int ((z : Int) + (0 + (g : Int)) + 1)])) := fun c p hp => by
            rw [if_neg c] at e
            rw [← e] at q
            refine q p _ (Same.new hp) hp ?_
            rw [upd_same, shl_mul]
            rw [show (z : Int) + (0 + (g : Int)) + 1 = ((z + g + 1 : Nat) : Int) by omega]
            rfl
          by_cases c2 : o = 0
          · rw [decide_eq_true c2]
            refine iteT ?_
            refine ⟨_, rfl, _, _, rfl, rfl, _, rfl, ?_⟩
            by_cases c3 : 0 < g
            · rw [decide_eq_true (show (0 : Int) < 0 + (g : Int) by omega)]
              refine iteT ?_
              rw [if_pos ⟨c2, c3⟩] at e
              rw [← e] at q
              refine ⟨_, rfl, _, rfl, _, _, rfl, rfl, (by show 2 ≤ sizeLine; decide), fun p hp => q p _ (Same.new hp) hp ?_⟩
              rw [upd_same]
              show some (HO.tup [.str "wrong", V.int ((z : Int) + (0 + (g : Int)))]) = _
              rw [ew]
              rfl
            · rw [decide_eq_false (show ¬ (0 : Int) < 0 + (g : Int) by omega)]
              refine iteF ?_
              exact ⟨_, rfl, _, rfl, _, rfl, _, _, rfl, rfl, .inl ⟨by decide, by decide⟩, _, _, rfl, rfl, ⟨by omega, by omega, by omega⟩, _, _, rfl, rfl, _, rfl, _, rfl, _, _, rfl, rfl, _, _, rfl, rfl, (by show 3 ≤ sizeLine; decide), fun p hp => fin (fun c => c3 c.2) p hp⟩
          · rw [decide_eq_false c2]
            refine iteF ?_
            exact ⟨_, rfl, _, rfl, _, rfl, _, _, rfl, rfl, .inl ⟨by decide, by decide⟩, _, _, rfl, rfl, ⟨by omega, by omega, by omega⟩, _, _, rfl, rfl, _, rfl, _, rfl, _, _, rfl, rfl, _, _, rfl, rfl, (by show 3 ≤ sizeLine; decide), fun p hp => fin (fun c => c2 c.1) p hp⟩
        · rw [decide_eq_true (show (127 : Int) < (o : Int) by omega)]
          refine iteT ?_
          rw [if_neg c1] at e
          have e8 : V.bl (decide (V.int (0 + (g : Int)) = V.int 8)) = V.bl (decide (g = 8)) := by
            rw [show (0 : Int) + (g : Int) = (g : Int) by omega]
            exact int_eqN g 8
          refine ⟨_, rfl, rfl, _, e8, ?_⟩
          by_cases c8 : g = 8
          · rw [decide_eq_true c8]
            refine iteT ?_
            subst c8
            have e' : R.wrong (z + 8) = cFrom l z := e
            rw [← e'] at q
            refine ⟨_, rfl, _, rfl, _, _, rfl, rfl, (by show 2 ≤ sizeLine; decide), fun p hp => q p _ (Same.new hp) hp ?_⟩
            rw [upd_same]
            show some (HO.tup [.str "wrong", V.int ((z : Int) + (0 + ((8 : Nat) : Int)))]) = _
            rw [ew]
            rfl
          · rw [decide_eq_false c8]
            refine iteF ?_
            refine ⟨_, rfl, _, _, rfl, rfl, _, rfl, ?_⟩
            rw [decide_eq_false (show ¬ (o : Int) < 128 by omega)]
            refine iteF ?_
            refine ⟨_, rfl, _, rfl, _, _, rfl, rfl, _, rfl, _, _, rfl, rfl, .inl ⟨by decide, by decide⟩, _, _, rfl, rfl, ⟨by omega, by omega, by omega⟩, _, _, rfl, rfl, ?_⟩
            refine ⟨num + (o - 128) * 2 ^ (7 * g), some (.int (0 + (g : Int))), some (.int (o : Int)), ?_, by omega, by rw [← e]; congr 1; omega, rfl⟩
            have e2 : ((o : Int) - 128) = ((o - 128 : Nat) : Int) := by omega
            show [some (V.ref a), some (V.int (z : Int)), some (V.int ((num : Int) + ((o : Int) - 128) * 2 ^ ((7 : Int) * ((0 : Int) + (g : Int))).toNat)), some (.int (0 + (g : Int))), some (.int (o : Int))] = _
            rw [e2, shl_mul]
            rfl
    · rintro σ H1 ⟨num, v3, v4, rfl, hg, e, rfl⟩
      exact absurd hg (by decide)
end
/-! ### texts of tuples of octets -/
/-- the reading makes, or finds, a tuple of these octets; what was tracked stands -/
def Gd (σ : St) (H : Hp) (te : TE) (l : List Nat) : Prop := ∀ H1, Same H H1 → ∀ Q : VK, (∀ (p : Addr) (H' : Hp), Same H1 H' → H' p = some (.tup (bV l)) → Q (.ref p) H') → te σ H1 Q
def Tus (H : Hp) : List Addr → List (List Nat) → Prop
  | [], [] => True
  | p :: ps, l :: ls => H p = some (.tup (bV l)) ∧ Tus H ps ls
  | _, _ => False
theorem Tus.same {H H' : Hp} (s : Same H H') : ∀ {ps : List Addr} {ls : List (List Nat)}, Tus H ps ls → Tus H' ps ls
  | [], [], _ => True.intro
  | _ :: _, _ :: _, h => ⟨s _ _ h.1, Tus.same s h.2⟩
theorem Tus.keep {r : Addr} {H H' : Hp} (s : Keep r H H') (n : ∀ xs, H r ≠ some (.tup xs)) : ∀ {ps : List Addr} {ls : List (List Nat)}, Tus H ps ls → Tus H' ps ls
  | [], [], _ => True.intro
  | _ :: _, _ :: _, h => ⟨s _ _ (fun e => n _ (e ▸ h.1)) h.1, Tus.keep s n h.2⟩
theorem Tus.get {H : Hp} : ∀ {ps : List Addr} {ls : List (List Nat)} {i : Nat} {p : Addr}, Tus H ps ls → ps[i]? = some p → ∃ l, ls[i]? = some l ∧ H p = some (.tup (bV l))
  | [], [], i, t, _, h => by simp at h
  | t' :: ts, c :: cs, 0, t, h, e => by
    have e' : t' = t := Option.some.inj e
    subst e'
    exact ⟨c, rfl, h.1⟩
  | _ :: ts, _ :: cs, i + 1, t, h, e => Tus.get (i := i) h.2 e
theorem Tus.len {H : Hp} : ∀ {ps : List Addr} {ls : List (List Nat)}, Tus H ps ls → ps.length = ls.length
  | [], [], _ => rfl
  | _ :: ts, _ :: cs, h => by rw [List.length_cons, List.length_cons, Tus.len h.2]
theorem Tus.append {H : Hp} : ∀ {ps : List Addr} {ls : List (List Nat)} {qs : List Addr} {ms : List (List Nat)}, Tus H ps ls → Tus H qs ms → Tus H (ps ++ qs) (ls ++ ms)
  | [], [], _, _, _, h => h
  | _ :: _, _ :: _, _, _, h, g => ⟨h.1, Tus.append h.2 g⟩
def GdL (σ : St) (H : Hp) (ta : TA) (ls : List (List Nat)) : Prop := ∀ H1, Same H H1 → ∀ Q : List V → Hp → Prop, (∀ (ps : List Addr) (H' : Hp), Same H1 H' → Tus H' ps ls → Q (ps.map V.ref) H') → ta σ H1 Q
section
variable {σ : St} {H : Hp} {t1 t2 : TE} {l l1 l2 : List Nat} {K : PySem.W.Frag}
theorem gd_nil : Gd σ H (tTup tNil) [] := fun H1 s Q q => ⟨Nat.zero_le _, fun p hp => q p _ (Same.new hp) upd_same⟩
theorem gd_one {a : Nat} : Gd σ H (tTup (tCons (tC (.int (a : Int))) tNil)) [a] := fun H1 s Q q => ⟨(by show 1 ≤ sizeLine; decide), fun p hp => q p _ (Same.new hp) upd_same⟩
theorem gd_two {a b : Nat} : Gd σ H (tTup (tCons (tC (.int (a : Int))) (tCons (tC (.int (b : Int))) tNil))) [a, b] := fun H1 s Q q => ⟨(by show 2 ≤ sizeLine; decide), fun p hp => q p _ (Same.new hp) upd_same⟩
theorem gd_rep {k : Nat} (h : Gd σ H t1 l) (h1 : l ≠ []) (h2 : 2 ≤ k) (h3 : k ≤ 1000) (h4 : l.length ≤ 1000) : Gd σ H (tOp (rRepT K) t1 (tC (.int (k : Int)))) (List.replicate k l).flatten := fun H1 s Q q => by
  refine h H1 s _ fun p H2 s2 hp => ?_
  refine ⟨p, _, bV l, rfl, rfl, .inl (.inl hp), ?_, by omega, by omega, by rw [bV_len]; exact h4, fun p2 np2 => ?_⟩
  · intro e
    have := congrArg List.length e
    rw [bV_len] at this
    exact h1 (List.eq_nil_of_length_eq_zero this)
  · refine q p2 _ (s2.trans (Same.new np2)) ?_
    rw [upd_same, Int.toNat_natCast]
    have e : (List.replicate k (bV l)).flatten = bV (List.replicate k l).flatten := by
      unfold bV
      rw [List.map_flatten, List.map_replicate]
    rw [e]
theorem gd_cat (h : Gd σ H t1 l1) (g : Gd σ H t2 l2) (h1 : l1 ≠ []) (h2 : l2 ≠ []) (h3 : l1.length + l2.length ≤ 1000) : Gd σ H (tOp (rCatT K) t1 t2) (l1 ++ l2) := fun H1 s Q q => by
  refine h H1 s _ fun p H2 s2 hp => ?_
  refine g H2 (s.trans s2) _ fun p2 H3 s3 hp2 => ?_
  refine ⟨p, p2, bV l1, bV l2, rfl, rfl, .inl (.inl (s3 _ _ hp)), .inl (.inl hp2), ?_, ?_, fun e => ?_, fun _ p3 np3 => ?_⟩
  · intro e
    have := congrArg List.length e
    rw [bV_len] at this
    exact h1 (List.eq_nil_of_length_eq_zero this)
  · rw [bV_len, bV_len]
    exact Nat.le_trans h3 (by decide)
  · have := congrArg List.length e
    rw [bV_len] at this
    exact absurd (List.eq_nil_of_length_eq_zero this) h2
  · refine q p3 _ ((s2.trans s3).trans (Same.new np3)) ?_
    rw [upd_same, bV_append]
theorem gd_catA (h : Gd σ H t1 l1) (g : Gd σ H t2 l2) (h3 : l1.length + l2.length ≤ 1000) : Gd σ H (tOp (rCatA K) t1 t2) (l1 ++ l2) := fun H1 s Q q => by
  refine h H1 s _ fun p H2 s2 hp => ?_
  refine g H2 (s.trans s2) _ fun p2 H3 s3 hp2 => ?_
  have nl : ∀ {m : List Nat}, bV m = [] → m = [] := fun {m} e => by
    have := congrArg List.length e
    rw [bV_len] at this
    exact List.eq_nil_of_length_eq_zero this
  refine ⟨p, p2, bV l1, bV l2, rfl, rfl, .inl (.inl (s3 _ _ hp)), .inl (.inl hp2), ?_, fun e => ?_, fun _ e => ?_, fun _ _ p3 np3 => ?_⟩
  · rw [bV_len, bV_len]
    exact Nat.le_trans h3 (by decide)
  · rw [nl e] at q
    exact q p2 H3 (s2.trans s3) hp2
  · rw [nl e, List.append_nil] at q
    exact q p H3 (s2.trans s3) (s3 _ _ hp)
  · refine q p3 _ ((s2.trans s3).trans (Same.new np3)) ?_
    rw [upd_same, bV_append]
/-- a name that holds one -/
theorem gd_var {i : Nat} {p : Addr} (e : σ[i]? = some (some (.ref p))) (hp : H p = some (.tup (bV l))) : Gd σ H (tVar i) l := fun H1 s Q q => ⟨_, e, q p H1 (fun _ _ h => h) (s _ _ hp)⟩
/-- t[:k] -/
theorem gd_upto {i k : Nat} {p : Addr} (e : σ[i]? = some (some (.ref p))) (hp : H p = some (.tup (bV l))) : Gd σ H (tSl (rSlA K) (tVar i) tNoPart (tPart (tC (.int (k : Int))))) (l.take k) := fun H1 s Q q => by
  have hc : HT.sIx (bV l).length (bV l).length (some (k : Int)) = min k l.length := by
    show (if (k : Int) < 0 then ((k : Int) + ((bV l).length : Int)).toNat else min (k : Int).toNat (bV l).length) = _
    rw [if_neg (by omega), bV_len]
    omega
  have hcut : cutV (bV l) none (some (k : Int)) = bV (l.take k) := by
    unfold cutV
    rw [HT.sIx_none, hc, List.drop_zero, Nat.sub_zero]
    unfold bV
    rw [← List.map_take, ← List.take_eq_take_min]
  refine ⟨_, e, _, rfl, p, _, rfl, .inl (.inl (s _ _ hp)), fun h => ?_, fun _ p2 np2 => ?_⟩
  · have h2 := h.2
    rw [hc, bV_len] at h2
    rw [List.take_of_length_le (by omega)] at q
    exact q p H1 (fun _ _ h => h) (s _ _ hp)
  · refine q p2 _ (Same.new np2) ?_
    rw [upd_same]
    exact congrArg (fun z => some (HO.tup z)) hcut
/-- t[:-1] -/
theorem gd_but {i : Nat} {p : Addr} {x : Nat} (e : σ[i]? = some (some (.ref p))) (hp : H p = some (.tup (bV (l ++ [x])))) : Gd σ H (tSl (rSlA K) (tVar i) tNoPart (tPart (tUn (rU fun i => .int (-i)) (tC (.int 1))))) l := fun H1 s Q q => by
  have hc : HT.sIx (bV (l ++ [x])).length (bV (l ++ [x])).length (some (-1)) = l.length := by
    show (if (-1 : Int) < 0 then ((-1 : Int) + ((bV (l ++ [x])).length : Int)).toNat else min (-1 : Int).toNat (bV (l ++ [x])).length) = _
    rw [if_pos (by decide), bV_len, List.length_append, List.length_singleton]
    omega
  have hcut : cutV (bV (l ++ [x])) none (some (-1)) = bV l := by
    unfold cutV
    rw [HT.sIx_none, hc, List.drop_zero, Nat.sub_zero]
    unfold bV
    rw [← List.map_take, List.take_left' rfl]
  refine ⟨_, e, _, rfl, _, rfl, p, _, rfl, .inl (.inl (s _ _ hp)), fun h => ?_, fun _ p2 np2 => ?_⟩
  · have h2 : HT.sIx (bV (l ++ [x])).length (bV (l ++ [x])).length (some (-1)) = _ := h.2
    rw [hc, bV_len, List.length_append, List.length_singleton] at h2
    omega
  · refine q p2 _ (Same.new np2) ?_
    rw [upd_same]
    exact congrArg (fun z => some (HO.tup z)) hcut
theorem gdl_nil : GdL σ H tNil [] := fun H1 s Q q => q [] H1 (fun _ _ h => h) True.intro
theorem gdl_cons {ta : TA} {ls : List (List Nat)} (h : Gd σ H t1 l) (g : GdL σ H ta ls) : GdL σ H (tCons t1 ta) (l :: ls) := fun H1 s Q q => by
  refine h H1 s _ fun p H2 s2 hp => ?_
  refine g H2 (s.trans s2) _ fun ps H3 s3 hps => ?_
  exact q (p :: ps) H3 (s2.trans s3) ⟨s3 _ _ hp, hps⟩
theorem tCons_of {t : TE} {ta : TA} {Q : List V → Hp → Prop} (h : t σ H fun v H1 => ta σ H1 fun vs H2 => Q (v :: vs) H2) : tCons t ta σ H Q := h
theorem tOp_of {r : R2} {ta tb : TE} {Q : VK} (h : ta σ H fun x H1 => tb σ H1 fun y H2 => r x y H2 Q) : tOp r ta tb σ H Q := h
theorem lst_of {ta : TA} {ls : List (List Nat)} (h : GdL σ H ta ls) (hl : ls.length ≤ 1000) {H1 : Hp} (s : Same H H1) {Q : VK} (q : ∀ (ps : List Addr) (b : Addr) (H' : Hp), Same H1 H' → H1 b = none → Tus H' ps ls → H' b = some (.lst (ps.map V.ref)) → Q (.ref b) H') : tLst ta σ H1 Q := by
  refine h H1 s _ fun ps H2 s2 hps => ⟨?_, fun b nb => ?_⟩
  · rw [List.length_map, Tus.len hps]
    exact Nat.le_trans hl (by decide)
  · have s3 : Same H2 (upd H2 b (.lst (ps.map V.ref))) := Same.new nb
    exact q ps b _ (s2.trans s3) (s2.free nb) (Tus.same s3 hps) upd_same
end
/-! ### steps of readings -/
theorem set_nx {i : Nat} {v : V} {σ : St} {H : Hp} {t : TS} {D D' : Ends} (h : t D (σ.set i (some v)) H) : gName i v σ H { nx := t D, rt := D'.rt, bk := D'.bk, ct := D'.ct : Ends }.nx := h
theorem seq_asg {te : TE} {g : TG} {u : TS} {D : Ends} {σ : St} {H : Hp} (R : V → Hp → Prop) (h : ∀ Q' : VK, (∀ v H', R v H' → Q' v H') → te σ H Q') (k : ∀ v H', R v H' → g v σ H' fun σ' H'' => u D σ' H'') : tSeq (tAsg te g) u D σ H := h _ k
theorem seq_par {i j : Nat} {ta : TA} {u : TS} {D : Ends} {σ : St} {H : Hp} (R : V → V → Hp → Prop) (h : ∀ Q' : List V → Hp → Prop, (∀ v w H', R v w H' → Q' [v, w] H') → ta σ H Q') (k : ∀ v w H', R v w H' → u D ((σ.set i (some v)).set j (some w)) H') : tSeq (tPar i j ta) u D σ H := h _ fun v w H' r => ⟨v, w, rfl, k v w H' r⟩
def Ck (K : PySem.W.Frag) (n : Nat) (G : Bool → Hp → Prop) (v w : V) (H : Hp) : Prop := spAlike K n [v, w] H (fun x H3 => ∃ k, x = .bl k ∧ G k H3) (fun _ _ _ => False)
theorem ck_same {K : PySem.W.Frag} {n : Nat} {G : Bool → Hp → Prop} {v w : V} {H : Hp} {d : PyData} (h1 : Dp K H v d) (h2 : Dp K H w d) (p1 : Pl 20 d) (p2 : Pl n d) (g : ∀ H3, Same H H3 → G true H3) : Ck K n G v w H := by
  refine ⟨v, w, d, d, rfl, h1, h2, p1, p2, fun b H' hb s => ⟨b, rfl, ?_⟩⟩
  have hbt : b = true := hb.mpr rfl
  subst hbt
  exact g H' s
theorem chk_of {K : PySem.W.Frag} {n : Nat} {te1 te2 : TE} {no u : TS} {D : Ends} {σ : St} {H : Hp} (h : te1 σ H fun v H1 => te2 σ H1 fun w H2 => Ck K n (fun k H3 => if (!k) = true then no { D with nx := u D } σ H3 else u D σ H3) v w H2) :
    tSeq (tIfS (tNot (tB (tCall (spAlike K n) [] E0 (tCons te1 (tCons te2 tNil))))) no tNext) u D σ H := h
theorem chk_end {K : PySem.W.Frag} {n : Nat} {te1 te2 : TE} {no : TS} {D : Ends} {σ : St} {H : Hp} (h : te1 σ H fun v H1 => te2 σ H1 fun w H2 => Ck K n (fun k H3 => if (!k) = true then no D σ H3 else D.nx σ H3) v w H2) :
    tIfS (tNot (tB (tCall (spAlike K n) [] E0 (tCons te1 (tCons te2 tNil))))) no tNext D σ H := h
theorem tCallS_of {sp : Sp} {E : St → XK} {t : TA} {σ : St} {H : Hp} {Q : VK} (h : t σ H fun vs H1 => sp vs H1 Q (E σ)) : tCallS sp E t σ H Q := h
theorem tVar_of {i : Nat} {v : V} {σ : St} {H : Hp} {Q : VK} (e : σ[i]? = some (some v)) (h : Q v H) : tVar i σ H Q := ⟨v, e, h⟩
def ForR (J : It) (g : TG) (tb : TS) (D : Ends) (σ : St) (H1 : Hp) : Prop := ∃ W : Nat → Nat → St → Hp → Prop, (∃ m, W 0 m σ H1) ∧ ∀ i m σ H, W i m σ H →
  (J.stop i H ∧ D.nx σ H) ∨ (J.go i H ∧ ∃ N : St → Hp → Prop, (∀ σ' H', N σ' H' → ∃ m', m' < m ∧ W (i + 1) m' σ' H') ∧ ∀ x H', J.yld i H x H' → g x σ H' fun σ2 H2 => tb { D with nx := N, ct := N, bk := D.nx } σ2 H2)
theorem for_of {K : PySem.W.Frag} {te : TE} {g : TG} {tb u : TS} {D : Ends} {σ : St} {H : Hp} {i : Nat} {v : V} (h : te (σ.set i (some v)) H fun x H1 => ∃ a, x = .ref a ∧ (∃ xs, SqL K H1 a xs) ∧ ForR (Itl K a) g tb { D with nx := u D } (σ.set i (some v)) H1) :
    gName i v σ H fun σ' H'' => tSeq (tFor (iList K te) g tb) u D σ' H'' := h
theorem at_last (l : List Nat) (x : Nat) : atI (bV (l ++ [x])) (-1) = some (.int (x : Int)) := by
  have e : ixN (l ++ [x]).length (-1) = some l.length := by
    unfold ixN
    rw [List.length_append, List.length_singleton, if_neg (by omega), if_pos (by omega)]
    congr 1
    omega
  unfold atI
  rw [bV_len, e]
  show (bV (l ++ [x]))[l.length]? = _
  refine bV_at ?_
  rw [List.getElem?_append_right (Nat.le_refl _), Nat.sub_self]
  rfl
theorem tCall_of {sp : Sp} {dvs : List V} {E : XK} {t : TA} {σ : St} {H : Hp} {Q : VK} (h : t σ H fun vs H1 => sp (vs ++ dvs) H1 Q E) : tCall sp dvs E t σ H Q := h
theorem gd_vv {σ : St} {H : Hp} {i j a b : Nat} {x y : Int} (e1 : σ[i]? = some (some (.int x))) (e2 : σ[j]? = some (some (.int y))) (h1 : x = (a : Int)) (h2 : y = (b : Int)) : Gd σ H (tTup (tCons (tVar i) (tCons (tVar j) tNil))) [a, b] := fun H1 s Q q => ⟨_, e1, _, e2, (by show 2 ≤ sizeLine; decide), fun p hp => q p _ (Same.new hp) (by rw [upd_same, h1, h2]; rfl)⟩
end K01
namespace K01
open PySem L2  RZ Cnt
/-! ### texts, by the places of their signs -/
def sgs : Str := "abcdefghijklmnopqrstuvwxyzABCDEFGHIJKLMNOPQRSTUVWXYZ0123456789 .,:;-_/+*()=?!"
theorem sgs_len : sgs.cps.size = 77 := by decide +kernel
def sg (k : Nat) : Nat := sgs.cps.getD k 0
theorem sg_in : ∀ k, k < 77 → sgs.cps.contains (sg k) = true := by decide +kernel
theorem sg_inj : ∀ i, i < 77 → ∀ j, j < 77 → sg i = sg j → i = j := by decide +kernel
def tx (l : List Nat) : Str := ⟨(l.map sg).toArray⟩
theorem tx_len (l : List Nat) : (tx l).length = l.length := by
  unfold tx
  show (l.map sg).toArray.size = l.length
  rw [List.size_toArray, List.length_map]
theorem tx_nil : tx [] = Str.ofString "" := by rfl
theorem tx_inj : ∀ {l m : List Nat}, (∀ k, k ∈ l → k < 77) → (∀ k, k ∈ m → k < 77) → tx l = tx m → l = m := by
  intro l m hl hm h
  have h2 : l.map sg = m.map sg := by
    have := congrArg (fun s : Str => s.cps.toList) h
    simpa [tx] using this
  clear h
  induction l generalizing m with
  | nil => cases m with
    | nil => rfl
    | cons b m => cases h2
  | cons a l ih => cases m with
    | nil => cases h2
    | cons b m =>
      rw [List.map_cons, List.map_cons] at h2
      injection h2 with e1 e2
      rw [sg_inj a (hl a List.mem_cons_self) b (hm b List.mem_cons_self) e1, ih (fun k hk => hl k (List.mem_cons_of_mem _ hk)) (fun k hk => hm k (List.mem_cons_of_mem _ hk)) e2]
theorem take_all_good {α : Type} {p : α → Bool} : ∀ {l : List α}, (∀ a, a ∈ l → p a = true) → l.takeWhile p = l
  | [], _ => rfl
  | a :: l, h => by
    rw [List.takeWhile_cons, if_pos (h a List.mem_cons_self), take_all_good fun b hb => h b (List.mem_cons_of_mem _ hb)]
theorem strip_tx {l : List Nat} (h : ∀ k, k ∈ l → k < 77) : Txt.stripChars (tx l) sgs = Str.ofString "" := by
  unfold Txt.stripChars
  rw [PySem.W.stripBy_eq]
  unfold PySem.W.stripped
  have e1 : ((tx l).cps.toList.takeWhile sgs.cps.contains).length = l.length := by
    have : (tx l).cps.toList.takeWhile sgs.cps.contains = (tx l).cps.toList := take_all_good fun c hc => by
      obtain ⟨k, hk, rfl⟩ := List.mem_map.mp (show c ∈ l.map sg by simpa [tx] using hc)
      exact sg_in k (h k hk)
    rw [this]
    simp [tx]
  have e2 : (tx l).cps.toList.length = l.length := by simp [tx]
  simp only [if_true, e1]
  rw [List.drop_of_length_le (by omega)]
  show Builtin.Str.strSub (tx l) l.length _ = _
  unfold Builtin.Str.strSub
  simp [tx]
  rw [List.drop_of_length_le (by rw [List.length_map]; exact Nat.le_refl _), List.take_nil]
  rfl
abbrev sis_signs : Stmt := top 15
abbrev nis_signs : List Str := ["value", "least", "most"]
abbrev pis_signs : List Str := ["value", "least", "most"]
theorem scis_signs : FnScope nis_signs pis_signs (defScope sis_signs) := ⟨rfl, rfl, rfl, by decide +kernel, rfl, by decide +kernel, by decide +kernel⟩
def Sgs (l : List Nat) : Prop := ∀ k, k ∈ l → k < 77
def spSg : Sp := fun vs H Q _ => ∃ (l : List Nat), vs = [.str (tx l), .int 0, .int 200] ∧ Sgs l ∧ l.length ≤ 200 ∧ Q (.bl true) H
structure Sx (mg : Str → Option Value) : Prop where
  b : Bi mg
  sg : ∃ t, mg "SIGNS" = some (.str sgs t)
  ms : ∃ t, mg "MOST_SIGNS" = some (.int 200 t)
  mi : ∃ t, mg "MOST_INTEGER" = some (.int 1099511627776 t)
section
variable {P : Program} {w : World} {K : PySem.W.Frag} {mg : Str → Option Value} {base : Heap}
theorem ok_sg {f : Addr} {fd : FuncData} (D : Dfn K mg "is_signs" sis_signs pis_signs f fd) (T : Sx mg) : FnOk P w K mg base CX0 1 f fd pis_signs spSg := by
  have nd := scis_signs.nd
  have B := T.b
  obtain ⟨ts, hsg⟩ := T.sg
  refine D.F.ok scis_signs (fun vs H Q E h => ?_) (fun cdv A outer s H vs Q E hr h => ?_)
  · obtain ⟨l, rfl, _⟩ := h
    rfl
  · obtain ⟨l, rfl, hl, hz, q⟩ := h
    have hlen : (tx l).length ≤ sizeLine := by rw [tx_len]; exact Nat.le_trans hz (by decide)
    refine ⟨_, pss_one (ps_ret (pe_and (pe_cmpR op_isTyB (pe_callTy call_type1 (by rfl) B.type (by decide +kernel) (pa_cons (pv 0) pa_nil)) (pe_bltn (v := .ty "str") (by rfl) B.str (by decide +kernel) rfl) (nomark _))
      (pe_and (pe_chain op_le op_le (pv 1) (pe_callB call_len_str (by rfl) B.len PySem.boot_len (pa_cons (pv 0) pa_nil)) (pv 2))
      (pe_one (pe_cmpR op_eq (pe_bm PySem.F.plainAttrs_str PySem.F.slot_str_strip PySem.F.type_str_strip mt_stripChars (pv 0) (pa_cons (pe_glob (v := .str sgs) rfl hsg ⟨_, rfl⟩) pa_nil)) pe_str (nomark _)))))), ?_⟩
    refine ⟨_, rfl, _, "str", rfl, .str _, _, _, rfl, rfl, _, rfl, ?_⟩
    refine iteT ?_
    refine ⟨_, rfl, _, rfl, tx l, rfl, hlen, _, _, rfl, rfl, _, rfl, ?_⟩
    rw [tx_len, decide_eq_true (show (0 : Int) ≤ (l.length : Int) by omega)]
    refine iteT ?_
    refine ⟨_, rfl, _, _, rfl, rfl, _, rfl, ?_⟩
    rw [decide_eq_true (show (l.length : Int) ≤ 200 by omega)]
    refine iteT ?_
    refine ⟨_, rfl, rfl, tx l, sgs, rfl, rfl, hlen, rfl, ?_⟩
    rw [strip_tx hl, decide_eq_true rfl]
    exact q
end
end K01
namespace K01
open PySem L2  RZ Cnt
theorem occ_sg : ∀ k, k < 77 → Builtin.Str.occurrences sgs ⟨#[sg k]⟩ 0 sgs.length 1 = [k] := by decide +kernel
abbrev stext_octets : Stmt := top 18
abbrev ntext_octets : List Str := ["text", "sign"]
abbrev ptext_octets : List Str := ["text"]
theorem sctext_octets : FnScope ntext_octets ptext_octets (defScope stext_octets) := ⟨rfl, rfl, rfl, by decide +kernel, rfl, by decide +kernel, by decide +kernel⟩
def spTO : Sp := fun vs H Q _ => ∃ (l : List Nat), vs = [.str (tx l)] ∧ Sgs l ∧ l.length ≤ 200 ∧ ∀ (p : Addr) (H' : Hp), Same H H' → H p = none → H' p = some (.tup (bV (cOct l.length ++ l))) → Q (.ref p) H'
section
variable {P : Program} {w : World} {K : PySem.W.Frag} {mg : Str → Option Value} {base : Heap}
theorem ok_to {f fC : Addr} {fd fdC : FuncData} (D : Dfn K mg "text_octets" stext_octets ptext_octets f fd) (T : Sx mg) (DC : Dfn K mg "count_octets" scount_octets pcount_octets fC fdC) (GC : FnOk P w K mg base CX0 1 fC fdC pcount_octets spCO) : FnOk P w K mg base CX0 2 f fd ptext_octets spTO := by
  have nd := sctext_octets.nd
  have B := T.b
  obtain ⟨ts, hsg⟩ := T.sg
  refine D.F.ok sctext_octets (fun vs H Q E h => ?_) (fun cdv A outer s H vs Q E hr h => ?_)
  · obtain ⟨l, rfl, _⟩ := h
    rfl
  · obtain ⟨l, rfl, hl, hz, q⟩ := h
    have hlen : (tx l).length ≤ sizeLine := by rw [tx_len]; exact Nat.le_trans hz (by decide)
    refine ⟨_, pss_one (ps_ret (pe_op op_catA (pe_call GC hr (by rfl) DC.g DC.F.kp DC.b .nil pass0 (pa_cons (pe_callB call_len_str (by rfl) B.len PySem.boot_len (pa_cons (pv 0) pa_nil)) pa_nil))
      (pe_callTy call_tuple_of (by rfl) B.tuple (by decide +kernel) (pa_cons (pe_lc (own := [("sign", 1)]) (g := gName 1) (tt := tYes) (te := tBM K "str" (fun x xs H Q => ∃ (a b : Str) (i : Nat) (rest : List Nat), x = .str a ∧ xs = [.str b] ∧ Builtin.Str.occurrences a b 0 a.length 1 = i :: rest ∧ Q (.int (i : Nat)) H) (tC (.str sgs)) (tCons (tVar 1) tNil)) rfl nd (pi_str (pv 0))
        (blkOk_by (N := ntext_octets) (sc := defScope stext_octets) (by decide +kernel)) (fun _ _ _ _ _ => pg_name (i := 1) nd rfl (.inl rfl)) (fun _ _ _ _ _ => pts_nil)
        (fun _ _ _ _ _ => by exact pe_bm PySem.F.plainAttrs_str PySem.F.slot_str_index PySem.F.type_str_index mt_sindex (pe_glob (v := .str sgs) rfl hsg ⟨_, rfl⟩) (pa_cons (pv 1) pa_nil))) pa_nil)))), ?_⟩
    refine ⟨_, rfl, tx l, rfl, hlen, l.length, by rw [tx_len]; rfl, by omega, fun c H1 s1 nc hc => ?_⟩
    refine ⟨_, rfl, tx l, rfl, fun Dl hD => ?_⟩
    have hDc : Dl ≠ c := fun z => by rw [z, hc] at hD; cases hD
    refine lc_it walk_str (fun i H2 => Same H1 H2 ∧ H2 Dl = some (.lst (bV (l.take i)))) ?_ ?_ ?_ ?_
    · exact ⟨Same.new hD, upd_same⟩
    · exact fun _ _ _ _ => True.intro
    · rintro i x H2 H3 hi ⟨s2, h2⟩ ⟨rfl, ch, hch, rfl⟩
      obtain ⟨k, hk, rfl⟩ : ∃ k, l[i]? = some k ∧ ch = sg k := by
        have : (l.map sg)[i]? = some ch := by simpa [tx] using hch
        rw [List.getElem?_map] at this
        cases e : l[i]? with
        | none => rw [e] at this; cases this
        | some k => rw [e] at this; exact ⟨k, rfl, (Option.some.inj this).symm⟩
      have hk77 := hl k (List.mem_of_getElem? hk)
      refine ⟨rfl, ?_⟩
      refine yes ?_
      refine ⟨rfl, _, rfl, sgs, ⟨#[sg k]⟩, k, [], rfl, rfl, occ_sg k hk77, _, h2, ?_, fun b u hb => ?_, ?_⟩
      · rw [bV_len, List.length_take]
        exact Nat.lt_of_le_of_lt (Nat.min_le_right _ _) (Nat.lt_of_le_of_lt hz (by decide))
      · rw [upd_ne (ne_of_none hb hD)]
        exact s2 b u hb
      · rw [upd_same, take_more hk, bV_app]
    · rintro H2 ⟨s2, h2⟩
      have e : (tx l).cps.size = l.length := tx_len l
      rw [e, take_all] at h2
      refine ⟨Dl, _, rfl, .inl ⟨SqL.of h2, fun p np => ?_⟩⟩
      have s3 : Same H2 (upd H2 p (.tup (bV l))) := Same.new np
      refine ⟨c, p, bV (cOct l.length), bV l, rfl, rfl, .inl (.inl (s3 _ _ (s2 _ _ hc))), .inl (.inl upd_same), ?_, fun z => ?_, fun _ z => ?_, fun _ _ p2 np2 => ?_⟩
      · rw [bV_len, bV_len]
        exact Nat.le_trans (show (cOct l.length).length + l.length ≤ 300 by have := cOct_len 8 l.length (by omega); omega) (by decide)
      · have := congrArg List.length z
        rw [bV_len] at this
        have := cOct_pos l.length
        have : (cOct l.length).length = 0 := by assumption
        omega
      · have := congrArg List.length z
        rw [bV_len] at this
        have e0 : l = [] := List.eq_nil_of_length_eq_zero this
        refine q c _ ((s1.trans s2).trans s3) nc ?_
        rw [e0, List.append_nil, List.length_nil]
        have hc' := s3 _ _ (s2 _ _ hc)
        rw [e0] at hc'
        exact hc'
      · refine q p2 _ (((s1.trans s2).trans s3).trans (Same.new np2)) (((s1.trans s2).trans s3).free np2) ?_
        rw [upd_same, bV_append]
end
end K01
namespace K01
open PySem L2  RZ Cnt
def spBtwS : Sp := fun vs H Q _ => ∃ (x : Str) (a b : Int), vs = [.str x, .int a, .int b] ∧ Q (.bl false) H
/-- a value that can be kept: None, an integer, a text by the places of its signs -/
inductive Val where
  | non
  | int (i : Int)
  | txt (l : List Nat)
def vV : Val → V
  | .non => .non
  | .int i => .int i
  | .txt l => .str (tx l)
def VOk : Val → Prop
  | .non => True
  | .int i => -1099511627776 ≤ i ∧ i ≤ 1099511627776
  | .txt l => Sgs l ∧ l.length ≤ 200
/-- the number that tells an integer -/
def zz (i : Int) : Nat := if i < 0 then (-2 * i - 1).toNat else (2 * i).toNat
def vOct : Val → List Nat
  | .non => [0]
  | .int i => 1 :: cOct (zz i)
  | .txt l => 2 :: (cOct l.length ++ l)
abbrev sis_value : Stmt := top 16
abbrev nis_value : List Str := ["value"]
abbrev pis_value : List Str := ["value"]
theorem scis_value : FnScope nis_value pis_value (defScope sis_value) := ⟨rfl, rfl, rfl, by decide +kernel, rfl, by decide +kernel, by decide +kernel⟩
def spIV : Sp := fun vs H Q _ => ∃ v : Val, vs = [vV v] ∧ VOk v ∧ Q (.bl true) H
abbrev svalue_octets : Stmt := top 19
abbrev nvalue_octets : List Str := ["value"]
abbrev pvalue_octets : List Str := ["value"]
theorem scvalue_octets : FnScope nvalue_octets pvalue_octets (defScope svalue_octets) := ⟨rfl, rfl, rfl, by decide +kernel, rfl, by decide +kernel, by decide +kernel⟩
def spVO : Sp := fun vs H Q _ => ∃ v : Val, vs = [vV v] ∧ VOk v ∧ ∀ (p : Addr) (H' : Hp), Same H H' → H' p = some (.tup (bV (vOct v))) → Q (.ref p) H'
section
variable {P : Program} {w : World} {K : PySem.W.Frag} {mg : Str → Option Value} {base : Heap}
theorem ok_btwS {f : Addr} {fd : FuncData} (D : Dfn K mg "is_between" sis_between pis_between f fd) (B : Bi mg) : FnOk P w K mg base CX0 1 f fd pis_between spBtwS := by
  have nd := scis_between.nd
  refine D.F.ok scis_between (fun vs H Q E h => ?_) (fun cdv A outer s H vs Q E hr h => ?_)
  · obtain ⟨v, a, b, rfl, _⟩ := h
    rfl
  · obtain ⟨v, a, b, rfl, q⟩ := h
    refine ⟨_, pss_one (ps_ret (pe_and (pe_cmpR op_isTyB (pe_callTy call_type1 (by rfl) B.type (by decide +kernel) (pa_cons (pv 0) pa_nil)) (pe_bltn (v := .ty "int") (by rfl) B.int (by decide +kernel) rfl) (nomark _))
      (pe_one (pe_chain op_le op_le (pv 1) (pv 0) (pv 2))))), ?_⟩
    refine ⟨_, rfl, _, "str", rfl, .str _, _, _, rfl, rfl, _, rfl, ?_⟩
    refine iteF ?_
    exact q
theorem ok_iv {f fB fS : Addr} {fd fdB fdS : FuncData} (D : Dfn K mg "is_value" sis_value pis_value f fd) (T : Sx mg) (DB : Dfn K mg "is_between" sis_between pis_between fB fdB) (DS : Dfn K mg "is_signs" sis_signs pis_signs fS fdS) : FnOk P w K mg base CX0 2 f fd pis_value spIV := by
  have nd := scis_value.nd
  obtain ⟨t2, hms⟩ := T.ms
  obtain ⟨t3, hmi⟩ := T.mi
  have GB : FnOk P w K mg base CX0 1 fB fdB pis_between (fun vs H Q E => spBtw vs H Q E ∨ spBtwS vs H Q E) :=
    ⟨fun vs H Q E h => h.elim ((ok_btw (P := P) (w := w) (base := base) DB T.b).len vs H Q E) ((ok_btwS (P := P) (w := w) (base := base) DB T.b).len vs H Q E), fun A outer s H args us vs Q E hr he hb hv hs => hs.elim ((ok_btw DB T.b).run A outer s H args us vs Q E hr he hb hv) ((ok_btwS DB T.b).run A outer s H args us vs Q E hr he hb hv)⟩
  have GS : FnOk P w K mg base CX0 1 fS fdS pis_signs spSg := ok_sg DS T
  refine D.F.ok scis_value (fun vs H Q E h => ?_) (fun cdv A outer s H vs Q E hr h => ?_)
  · obtain ⟨v, rfl, _⟩ := h
    rfl
  · obtain ⟨v, rfl, hv, q⟩ := h
    refine ⟨_, pss_cons (ps_if (PW.pt (pw_or (pt_cmpR op_isN (pv 0) pe_non (nomark _)) (pw_or1 (pt_val (pe_call GB hr (by rfl) DB.g DB.F.kp DB.b .nil pass0 (pa_cons (pv 0) (pa_cons (pe_un un_neg (pe_glob (v := .int 1099511627776) rfl hmi ⟨_, rfl⟩)) (pa_cons (pe_glob (v := .int 1099511627776) rfl hmi ⟨_, rfl⟩) pa_nil)))))))) (pss_one (ps_ret pe_bl)) pss_nil)
      (pss_one (ps_ret (pe_call GS hr (by rfl) DS.g DS.F.kp DS.b .nil pass0 (pa_cons (pv 0) (pa_cons pe_int (pa_cons (pe_glob (v := .int 200) rfl hms ⟨_, rfl⟩) pa_nil)))))), ?_⟩
    cases v with
    | non =>
      refine ⟨_, rfl, rfl, _, rfl, ?_⟩
      refine iteT ?_
      refine iteT ?_
      exact q
    | int i =>
      refine ⟨_, rfl, rfl, _, rfl, ?_⟩
      refine iteF ?_
      refine ⟨_, rfl, _, rfl, .inl ⟨i, -1099511627776, 1099511627776, rfl, _, rfl, ?_⟩⟩
      have hv' : -1099511627776 ≤ i ∧ i ≤ 1099511627776 := hv
      rw [decide_eq_true hv']
      refine iteT ?_
      exact q
    | txt l =>
      refine ⟨_, rfl, rfl, _, rfl, ?_⟩
      refine iteF ?_
      refine ⟨_, rfl, _, rfl, .inr ⟨tx l, -1099511627776, 1099511627776, rfl, _, rfl, ?_⟩⟩
      refine iteF ?_
      exact ⟨_, rfl, l, rfl, hv.1, hv.2, q⟩
theorem ok_vo {f fT fC : Addr} {fd fdT fdC : FuncData} (D : Dfn K mg "value_octets" svalue_octets pvalue_octets f fd) (T : Sx mg) (DT : Dfn K mg "text_octets" stext_octets ptext_octets fT fdT) (GT : FnOk P w K mg base CX0 2 fT fdT ptext_octets spTO)
    (DC : Dfn K mg "count_octets" scount_octets pcount_octets fC fdC) (GC : FnOk P w K mg base CX0 1 fC fdC pcount_octets spCO) : FnOk P w K mg base CX0 3 f fd pvalue_octets spVO := by
  have nd := scvalue_octets.nd
  have B := T.b
  refine D.F.ok scvalue_octets (fun vs H Q E h => ?_) (fun cdv A outer s H vs Q E hr h => ?_)
  · obtain ⟨v, rfl, _⟩ := h
    rfl
  · obtain ⟨v, rfl, hv, q⟩ := h
    have hr1 : Room 1 _ := hr.mono (by decide)
    refine ⟨_, pss_cons (ps_if (pt_cmpR op_isN (pv 0) pe_non (nomark _)) (pss_one (ps_ret (pe_tup (pa_cons pe_int pa_nil)))) pss_nil)
      (pss_cons (ps_if (pt_cmpR op_isTyB (pe_callTy call_type1 (by rfl) B.type (by decide +kernel) (pa_cons (pv 0) pa_nil)) (pe_bltn (v := .ty "str") (by rfl) B.str (by decide +kernel) rfl) (nomark _)) (pss_one (ps_ret (pe_op op_catT (pe_tup (pa_cons pe_int pa_nil)) (pe_call GT hr (by rfl) DT.g DT.F.kp DT.b .nil pass0 (pa_cons (pv 0) pa_nil))))) pss_nil)
      (pss_cons (ps_if (pt_cmpR op_lt (pv 0) pe_int (nomark _)) (pss_one (ps_ret (pe_op op_catT (pe_tup (pa_cons pe_int pa_nil)) (pe_call GC hr1 (by rfl) DC.g DC.F.kp DC.b .nil pass0 (pa_cons (pe_op op_sub (pe_op op_mul (pe_un un_neg pe_int) (pv 0)) pe_int) pa_nil))))) pss_nil)
      (pss_one (ps_ret (pe_op op_catT (pe_tup (pa_cons pe_int pa_nil)) (pe_call GC hr1 (by rfl) DC.g DC.F.kp DC.b .nil pass0 (pa_cons (pe_op op_mul pe_int (pv 0)) pa_nil))))))), ?_⟩
    have cat : ∀ {a n : Nat} {ls : List Nat} {te : TE} {σ : St}, Gd σ H te ls → ls ≠ [] → ls.length ≤ 900 → bV (a :: ls) = bV (vOct v) → tRet (tOp (rCatT K) (tTup (tCons (tC (.int (a : Int))) tNil)) te) { nx := fun _ H' => Q .non H', rt := Q } σ H := fun {a n ls te σ} g h1 h2 e =>
      gd_cat gd_one g (by simp) h1 (by rw [List.length_singleton]; omega) H (fun _ _ h => h) _ fun p H' s hp => q p H' s (hp.trans (congrArg (fun z => some (HO.tup z)) e))
    cases v with
    | non =>
      refine ⟨_, rfl, rfl, _, rfl, ?_⟩
      refine iteT ?_
      exact ⟨(by show 1 ≤ sizeLine; decide), fun p np => q p _ (Same.new np) upd_same⟩
    | txt l =>
      refine ⟨_, rfl, rfl, _, rfl, ?_⟩
      refine iteF ?_
      refine ⟨_, rfl, _, "str", rfl, .str _, _, _, rfl, rfl, _, rfl, ?_⟩
      refine iteT ?_
      refine cat (a := 2) (n := 0) (ls := cOct l.length ++ l) (fun H1 s1 Q1 q1 => ⟨_, rfl, l, rfl, hv.1, hv.2, fun p H' s np hp => q1 p H' s hp⟩) ?_ ?_ rfl
      · intro e
        have hh := congrArg List.length e
        rw [List.length_append, List.length_nil] at hh
        have hp := cOct_pos l.length
        omega
      · rw [List.length_append]
        have := cOct_len 8 l.length (by have := hv.2; omega)
        have := hv.2
        omega
    | int i =>
      have hv' : -1099511627776 ≤ i ∧ i ≤ 1099511627776 := hv
      have zl : zz i < 2 ^ 63 := by unfold zz; split <;> omega
      have cl := cOct_len 8 (zz i) (by rw [show (128 : Nat) = 2 ^ 7 from rfl, ← Nat.pow_mul]; exact zl)
      have cn : cOct (zz i) ≠ [] := fun e => by
        have := cOct_pos (zz i)
        rw [e] at this
        exact absurd this (Nat.lt_irrefl 0)
      refine ⟨_, rfl, rfl, _, rfl, ?_⟩
      refine iteF ?_
      refine ⟨_, rfl, _, "int", rfl, .int _, _, _, rfl, rfl, _, rfl, ?_⟩
      refine iteF ?_
      refine ⟨_, rfl, _, _, rfl, rfl, _, rfl, ?_⟩
      by_cases c : i < 0
      · rw [decide_eq_true c]
        refine iteT ?_
        have e : -2 * i - 1 = ((zz i : Nat) : Int) := by unfold zz; rw [if_pos c]; omega
        refine cat (a := 1) (n := 0) (ls := cOct (zz i)) (fun H1 s1 Q1 q1 => ⟨_, rfl, _, rfl, _, _, rfl, rfl, .inl ⟨by decide, by decide⟩, _, _, rfl, rfl, zz i, congrArg (fun z => [V.int z]) e, zl, fun p H' s np hp => q1 p H' s hp⟩) cn (by omega) rfl
      · rw [decide_eq_false c]
        refine iteF ?_
        have e : 2 * i = ((zz i : Nat) : Int) := by unfold zz; rw [if_neg c]; omega
        refine cat (a := 1) (n := 0) (ls := cOct (zz i)) (fun H1 s1 Q1 q1 => ⟨_, rfl, _, _, rfl, rfl, .inl ⟨by decide, by decide⟩, zz i, congrArg (fun z => [V.int z]) e, zl, fun p H' s np hp => q1 p H' s hp⟩) cn (by omega) rfl
end
end K01
namespace K01
open PySem L2  RZ Cnt
abbrev swrite_text : Stmt := top 25
abbrev nwrite_text : List Str := ["text"]
abbrev pwrite_text : List Str := ["text"]
theorem scwrite_text : FnScope nwrite_text pwrite_text (defScope swrite_text) := ⟨rfl, rfl, rfl, by decide +kernel, rfl, by decide +kernel, by decide +kernel⟩
abbrev swrite_value : Stmt := top 27
abbrev nwrite_value : List Str := ["value"]
abbrev pwrite_value : List Str := ["value"]
theorem scwrite_value : FnScope nwrite_value pwrite_value (defScope swrite_value) := ⟨rfl, rfl, rfl, by decide +kernel, rfl, by decide +kernel, by decide +kernel⟩
section
variable {P : Program} {w : World} {K : PySem.W.Frag} {mg : Str → Option Value} {base : Heap}
theorem ok_wt {f fS fT : Addr} {fd fdS fdT : FuncData} (D : Dfn K mg "write_text" swrite_text pwrite_text f fd) (T : Sx mg) (DS : Dfn K mg "is_signs" sis_signs pis_signs fS fdS) (DT : Dfn K mg "text_octets" stext_octets ptext_octets fT fdT) (GT : FnOk P w K mg base CX0 2 fT fdT ptext_octets spTO) : FnOk P w K mg base CX0 3 f fd pwrite_text spTO := by
  have nd := scwrite_text.nd
  obtain ⟨t2, hms⟩ := T.ms
  have GS : FnOk P w K mg base CX0 1 fS fdS pis_signs spSg := ok_sg DS T
  refine D.F.ok scwrite_text (fun vs H Q E h => ?_) (fun cdv A outer s H vs Q E hr h => ?_)
  · obtain ⟨l, rfl, _⟩ := h
    rfl
  · obtain ⟨l, rfl, hl, hz, q⟩ := h
    have hr1 : Room 1 _ := hr.mono (by decide)
    refine ⟨_, pss_cons (ps_if (pt_not (pt_val (pe_call GS hr1 (by rfl) DS.g DS.F.kp DS.b .nil pass0 (pa_cons (pv 0) (pa_cons pe_int (pa_cons (pe_glob (v := .int 200) rfl hms ⟨_, rfl⟩) pa_nil)))))) (pss_one ps_never) pss_nil)
      (pss_one (ps_ret (pe_call GT hr (by rfl) DT.g DT.F.kp DT.b .nil pass0 (pa_cons (pv 0) pa_nil)))), ?_⟩
    refine ⟨_, rfl, l, rfl, hl, hz, _, rfl, ?_⟩
    refine iteF ?_
    exact ⟨_, rfl, l, rfl, hl, hz, q⟩
theorem ok_wv {f fI fO : Addr} {fd fdI fdO : FuncData} (D : Dfn K mg "write_value" swrite_value pwrite_value f fd) (DI : Dfn K mg "is_value" sis_value pis_value fI fdI) (GI : FnOk P w K mg base CX0 2 fI fdI pis_value spIV) (DO : Dfn K mg "value_octets" svalue_octets pvalue_octets fO fdO) (GO : FnOk P w K mg base CX0 3 fO fdO pvalue_octets spVO) : FnOk P w K mg base CX0 4 f fd pwrite_value spVO := by
  have nd := scwrite_value.nd
  refine D.F.ok scwrite_value (fun vs H Q E h => ?_) (fun cdv A outer s H vs Q E hr h => ?_)
  · obtain ⟨v, rfl, _⟩ := h
    rfl
  · obtain ⟨v, rfl, hv, q⟩ := h
    have hr2 : Room 2 _ := hr.mono (by decide)
    refine ⟨_, pss_cons (ps_if (pt_not (pt_val (pe_call GI hr2 (by rfl) DI.g DI.F.kp DI.b .nil pass0 (pa_cons (pv 0) pa_nil)))) (pss_one ps_never) pss_nil)
      (pss_one (ps_ret (pe_call GO hr (by rfl) DO.g DO.F.kp DO.b .nil pass0 (pa_cons (pv 0) pa_nil)))), ?_⟩
    refine ⟨_, rfl, v, rfl, hv, _, rfl, ?_⟩
    refine iteF ?_
    exact ⟨_, rfl, v, rfl, hv, q⟩
end
/-! ### what is read: pure -/
/-- what is told of octets: a value and the place behind it -/
inductive RV where
  | done (v : Val) (b : Nat)
  | short
  | wrong (p : Nat)
/-- so many signs from a place on, behind those at hand -/
def tRun (l : List Nat) : Nat → Nat → List Nat → RV
  | _, 0, acc => .done (.txt acc) 0
  | p, m + 1, acc => if l.length ≤ p then .short else if 77 ≤ l.getD p 0 then .wrong p else tRun l (p + 1) m (acc ++ [l.getD p 0])
def tFrom (l : List Nat) (z : Nat) : RV := match cFrom l z with
  | .short => .short
  | .wrong p => .wrong p
  | .done m b => if 200 < m then .wrong z else match tRun l b m [] with
    | .done v _ => .done v (b + m)
    | r => r
/-- the integer of a number -/
def unz (n : Nat) : Int := if n % 2 = 1 then -(((n + 1) / 2 : Nat) : Int) else ((n / 2 : Nat) : Int)
def iFrom (l : List Nat) (z : Nat) : RV := match cFrom l z with
  | .short => .short
  | .wrong p => .wrong p
  | .done m b => if 2199023255552 < m then .wrong z else .done (.int (unz m)) b
def vFrom (l : List Nat) (z : Nat) : RV := if l.length ≤ z then .short else if 2 < l.getD z 0 then .wrong z else if l.getD z 0 = 0 then .done .non (z + 1) else if l.getD z 0 = 1 then iFrom l (z + 1) else tFrom l (z + 1)
end K01
namespace K01
open PySem L2  RZ Cnt
def RQV (CW CS : Addr) (H : Hp) (Q : VK) (E : XK) : RV → Prop
  | .done v b => ∀ (p : Addr) (H' : Hp), Same H H' → H p = none → H' p = some (.tup [vV v, .int b]) → Q (.ref p) H'
  | .short => ∀ H', Same H H' → E (.ref CS) none H'
  | .wrong z => ∀ (d : Addr) (H' : Hp), Same H H' → H d = none → H' d = some (.xd [("place", .int z)]) → E (.ref CW) (some d) H'
abbrev sinteger_from : Stmt := top 22
abbrev ninteger_from : List Str := ["octets", "at", "number", "behind"]
abbrev pinteger_from : List Str := ["octets", "at"]
theorem scinteger_from : FnScope ninteger_from pinteger_from (defScope sinteger_from) := ⟨rfl, rfl, rfl, by decide +kernel, rfl, by decide +kernel, by decide +kernel⟩
def spIF (K : PySem.W.Frag) (CW CS : Addr) (fr : List Nat → Nat → RV) : Sp := fun vs H Q E => ∃ (a : Addr) (l : List Nat) (z : Nat), vs = [.ref a, .int z] ∧ SqT K H a (bV l) ∧ Byt l ∧ z ≤ l.length ∧ l.length ≤ 100000 ∧ RQV CW CS H Q E (fr l z)
section
variable {P : Program} {w : World} {K : PySem.W.Frag} {mg : Str → Option Value} {base : Heap} {CW CS fI : Addr}
theorem ok_if {f fF : Addr} {fd fdF : FuncData} (D : Dfn K mg "integer_from" sinteger_from pinteger_from f fd) (T : Sx mg) (TW : PySem.WrX.WrTxt P K mg "Wrong" CW fI) (DF : Dfn K mg "count_from" scount_from pcount_from fF fdF) (GF : FnOk P w K mg base (L2.CX P w) 3 fF fdF pcount_from (spCF K CW CS)) :
    FnOk P w K mg base (L2.CX P w) 4 f fd pinteger_from (spIF K CW CS iFrom) := by
  have nd := scinteger_from.nd
  obtain ⟨t3, hmi⟩ := T.mi
  refine D.F.okX scinteger_from (fun vs H Q E h => ?_) (fun cdv A outer s H vs Q E hr h => ?_)
  · obtain ⟨a, l, z, rfl, _⟩ := h
    rfl
  · obtain ⟨a, l, z, rfl, hs, hb, hz, hl, q⟩ := h
    refine ⟨_, pss_cons (ps_asg (g := gTup K 2 (gCons (gName 2) (gCons (gName 3) gNil))) (pe_callS GF hr (by rfl) DF.g DF.F.kp DF.b (fun σ => passAt (takes_of (E := E) rfl rfl rfl rfl) σ) (by exact (pa_cons (pv 0) (pa_cons (pv 1) pa_nil)))) (by exact pg_tup rfl (pgs_cons (pg_name (i := 2) nd rfl (.inl rfl)) (pgs_cons (pg_name (i := 3) nd rfl (.inl rfl)) pgs_nil))))
      (pss_cons (ps_if (pt_cmpR op_gt (pv 2) (pe_op op_mul pe_int (pe_glob (v := .int 1099511627776) rfl hmi ⟨_, rfl⟩)) (nomark _)) (pss_one (ps_raiseWr rfl TW hr (takes_of rfl rfl rfl rfl) (by exact (pa_cons (pv 1) pa_nil)) (by rfl))) pss_nil)
      (pss_cons (ps_if (pt_truth (pe_op op_and (pv 2) pe_int) (fun _ => rfl)) (pss_one (ps_ret (pe_tup (pa_cons (pe_op op_fdivN (pe_un un_neg (pe_op op_add (pv 2) pe_int)) pe_int) (pa_cons (pv 3) pa_nil))))) pss_nil)
      (pss_one (ps_ret (pe_tup (pa_cons (pe_op op_fdivN (pv 2) pe_int) (pa_cons (pv 3) pa_nil))))))), ?_⟩
    refine ⟨_, rfl, _, rfl, a, l, z, rfl, hs, hb, hz, hl, ?_⟩
    unfold iFrom at q
    cases e : cFrom l z with
    | short =>
      rw [e] at q
      exact q
    | wrong p =>
      rw [e] at q
      exact q
    | done m b =>
      rw [e] at q
      have q : RQV CW CS H Q E (if 2199023255552 < m then .wrong z else .done (.int (unz m)) b) := q
      intro p H1 s1 np hp
      refine ⟨p, _, rfl, .inl (.inl hp), rfl, _, _, rfl, _, _, rfl, rfl, ?_⟩
      refine ⟨_, rfl, _, _, rfl, rfl, .inl ⟨by decide, by decide⟩, _, _, rfl, rfl, _, rfl, ?_⟩
      by_cases c : 2199023255552 < m
      · rw [decide_eq_true (show (2 : Int) * 1099511627776 < (m : Int) by omega)]
        refine iteT ?_
        rw [if_pos c] at q
        refine ⟨_, rfl, _, rfl, small_log (by omega) (by omega), fun d hd => ?_⟩
        exact q d _ (s1.trans (Same.new hd)) (s1.free hd) upd_same
      · rw [decide_eq_false (show ¬ (2 : Int) * 1099511627776 < (m : Int) by omega)]
        refine iteF ?_
        rw [if_neg c] at q
        have e1 : Builtin.bitAnd (m : Int) 1 = ((m % 2 : Nat) : Int) := by
          have : Builtin.bitAnd (m : Int) 1 = ((m &&& 1 : Nat) : Int) := aN m 1
          rw [this, Nat.and_one_is_mod]
        have e2 : decide (m % 2 = 1) = (Builtin.bitAnd (m : Int) 1 != 0) := by
          rw [e1]
          rcases Nat.mod_two_eq_zero_or_one m with h | h
          · rw [h]; rfl
          · rw [h]; rfl
        refine ⟨_, rfl, _, _, rfl, rfl, decide (m % 2 = 1), e2, ?_⟩
        by_cases c2 : m % 2 = 1
        · rw [decide_eq_true c2]
          refine iteT ?_
          refine ⟨_, rfl, _, _, rfl, rfl, _, rfl, _, _, rfl, rfl, ⟨by decide, by decide⟩, _, rfl, (by show 2 ≤ sizeLine; decide), fun r nr => q r _ (s1.trans (Same.new nr)) (s1.free nr) ?_⟩
          rw [upd_same]
          have e3 : (-((m : Int) + 1)).fdiv 2 = unz m := by
            unfold unz
            rw [if_pos c2, Int.fdiv_eq_ediv_of_nonneg _ (by decide)]
            omega
          exact congrArg (fun z => some (HO.tup [V.int z, V.int (b : Nat)])) e3
        · rw [decide_eq_false c2]
          refine iteF ?_
          refine ⟨_, rfl, _, _, rfl, rfl, ⟨by decide, by decide⟩, _, rfl, (by show 2 ≤ sizeLine; decide), fun r nr => q r _ (s1.trans (Same.new nr)) (s1.free nr) ?_⟩
          rw [upd_same]
          have e3 : ((m : Int)).fdiv 2 = unz m := by
            unfold unz
            rw [if_neg c2, Int.fdiv_eq_ediv_of_nonneg _ (by decide)]
            omega
          exact congrArg (fun z => some (HO.tup [V.int z, V.int (b : Nat)])) e3
end
end K01
namespace K01
open PySem L2  RZ Cnt
abbrev stext_from : Stmt := top 21
abbrev ntext_from : List Str := ["octets", "at", "many", "start", "signs", "place"]
abbrev ptext_from : List Str := ["octets", "at"]
theorem sctext_from : FnScope ntext_from ptext_from (defScope stext_from) := ⟨rfl, rfl, rfl, by decide +kernel, rfl, by decide +kernel, by decide +kernel⟩
theorem sg_get : ∀ k, k < 77 → sgs.cps.toList[k]? = some (sg k) := by decide +kernel
theorem sg_at {k : Nat} (h : k < 77) : atI sgs.cps.toList ((k : Nat) : Int) = some (sg k) := by
  have e0 : sgs.cps.toList.length = 77 := by decide +kernel
  have e : ixN sgs.cps.toList.length ((k : Nat) : Int) = some k := by
    unfold ixN
    rw [e0, if_pos (by omega), if_pos (by omega)]
    rfl
  unfold atI
  rw [e]
  exact sg_get k h
theorem sgs_77 : sgs.length = 77 := by decide +kernel
def sgl (l : List Nat) : List Str := l.map fun k => (⟨#[sg k]⟩ : Str)
theorem sgl_sum (l : List Nat) : ((sgl l).map (·.length)).sum = l.length := by
  induction l with
  | nil => rfl
  | cons a l ih =>
    show 1 + ((sgl l).map (·.length)).sum = l.length + 1
    omega
theorem fold_sgl : ∀ (l : List Nat) (acc : Array Nat), (sgl l).foldl (fun acc p => acc ++ (Str.ofString "").cps ++ p.cps) acc = acc ++ (l.map sg).toArray
  | [], acc => by
    show acc = acc ++ #[]
    simp
  | k :: l, acc => by
    have e0 : (Str.ofString "").cps = #[] := by rfl
    show (sgl l).foldl (fun acc p => acc ++ (Str.ofString "").cps ++ p.cps) (acc ++ (Str.ofString "").cps ++ #[sg k]) = _
    rw [fold_sgl l, e0]
    simp
theorem join_sgl (l : List Nat) : Txt.join (Str.ofString "") (sgl l) = tx l := by
  cases l with
  | nil => rfl
  | cons k l =>
    show (⟨(sgl l).foldl (fun acc p => acc ++ (Str.ofString "").cps ++ p.cps) #[sg k]⟩ : Str) = tx (k :: l)
    rw [fold_sgl]
    unfold tx
    simp
theorem cRun_le (l : List Nat) (z : Nat) : ∀ (k g num n b : Nat), cRun l z g num k = .done n b → b ≤ l.length
  | 0, g, num, n, b, h => by
    rw [cRun] at h
    cases h
  | k + 1, g, num, n, b, h => by
    rw [cRun] at h
    split at h
    · cases h
    split at h
    · split at h
      · cases h
      · injection h with h1 h2
        omega
    · exact cRun_le l z k (g + 1) _ n b h
theorem tRun_more (l : List Nat) : ∀ (m p : Nat) (acc : List Nat) (t : List Nat) (b : Nat), tRun l p m acc = .done (.txt t) b → Sgs acc → Sgs t
  | 0, p, acc, t, b, h, ha => by
    rw [tRun] at h
    injection h with h1 h2
    injection h1 with h1
    rw [← h1]
    exact ha
  | m + 1, p, acc, t, b, h, ha => by
    rw [tRun] at h
    split at h
    · cases h
    split at h
    · cases h
    · rename_i c
      exact tRun_more l m (p + 1) _ t b h fun k hk => by
        rcases List.mem_append.mp hk with hk | hk
        · exact ha k hk
        · rw [List.mem_singleton.mp hk]
          omega
section
variable {P : Program} {w : World} {K : PySem.W.Frag} {mg : Str → Option Value} {base : Heap} {CW CS fI : Addr}
theorem ok_tf {f fF : Addr} {fd fdF : FuncData} (D : Dfn K mg "text_from" stext_from ptext_from f fd) (T : Sx mg) (TW : PySem.WrX.WrTxt P K mg "Wrong" CW fI) (TS : ShTxt K mg "Short" CS) (DF : Dfn K mg "count_from" scount_from pcount_from fF fdF) (GF : FnOk P w K mg base (L2.CX P w) 3 fF fdF pcount_from (spCF K CW CS)) :
    FnOk P w K mg base (L2.CX P w) 4 f fd ptext_from (spIF K CW CS tFrom) := by
  have nd := sctext_from.nd
  have B := T.b
  obtain ⟨t2, hms⟩ := T.ms
  obtain ⟨t4, hsg⟩ := T.sg
  refine D.F.okX sctext_from (fun vs H Q E h => ?_) (fun cdv A outer s H vs Q E hr h => ?_)
  · obtain ⟨a, l, z, rfl, _⟩ := h
    rfl
  · obtain ⟨a, l, z, rfl, hs, hb, hz, hl, q⟩ := h
    refine ⟨_, pss_cons (ps_asg (g := gTup K 2 (gCons (gName 2) (gCons (gName 3) gNil))) (pe_callS GF hr (by rfl) DF.g DF.F.kp DF.b (fun σ => passAt (takes_of (E := E) rfl rfl rfl rfl) σ) (by exact (pa_cons (pv 0) (pa_cons (pv 1) pa_nil)))) (by exact pg_tup rfl (pgs_cons (pg_name (i := 2) nd rfl (.inl rfl)) (pgs_cons (pg_name (i := 3) nd rfl (.inl rfl)) pgs_nil))))
      (pss_cons (ps_if (pt_cmpR op_gt (pv 2) (pe_glob (v := .int 200) rfl hms ⟨_, rfl⟩) (nomark _)) (pss_one (ps_raiseWr rfl TW hr (takes_of rfl rfl rfl rfl) (by exact (pa_cons (pv 1) pa_nil)) (by rfl))) pss_nil)
      (pss_cons (ps_set (i := 4) nd rfl (.inl rfl) (pe_lst pa_nil))
      (pss_cons (ps_for (passes_of rfl) rfl (pi_range2 (by rfl) B.range (pa_cons (pv 3) (pa_cons (pe_op op_add (pv 3) (pv 2)) pa_nil))) (pg_name (i := 5) nd rfl (.inl rfl))
        (pss_cons (ps_if (pt_cmpR op_ge (pv 5) (pe_callB call_len_seq (by rfl) B.len PySem.boot_len (pa_cons (pv 0) pa_nil)) (nomark _)) (pss_one (ps_raise rfl (takes_of rfl rfl rfl rfl) (pmk_own PySem.F.excBase_ValueError TS.q TS.g TS.k (raises_own TS.ex TS.ty) (by rfl)))) pss_nil)
        (pss_cons (ps_if (pt_cmpR op_ge (pe_ix ix_tup (pv 0) (pv 5) (fun _ _ => rfl)) (pe_callB call_len_str (by rfl) B.len PySem.boot_len (pa_cons (pe_glob (v := .str sgs) rfl hsg ⟨_, rfl⟩) pa_nil)) (nomark _)) (pss_one (ps_raiseWr rfl TW hr (takes_of rfl rfl rfl rfl) (by exact (pa_cons (pv 5) pa_nil)) (by rfl))) pss_nil)
        (pss_one (ps_expr (pe_bm PySem.F.plainAttrs_list PySem.F.slot_list_append PySem.F.type_list_append mt_append (pv 4) (pa_cons (pe_ix ix_str (pe_glob (v := .str sgs) rfl hsg ⟨_, rfl⟩) (pe_ix ix_tup (pv 0) (pv 5) (fun _ _ => rfl)) (fun _ _ => rfl)) pa_nil)))))))
      (pss_one (ps_ret (pe_tup (pa_cons (pe_join pe_str (pv 4)) (pa_cons (pe_op op_add (pv 3) (pv 2)) pa_nil)))))))), ?_⟩
    refine ⟨_, rfl, _, rfl, a, l, z, rfl, hs, hb, hz, hl, ?_⟩
    unfold tFrom at q
    cases e : cFrom l z with
    | short =>
      rw [e] at q
      exact q
    | wrong p =>
      rw [e] at q
      exact q
    | done m b =>
      rw [e] at q
      have q : RQV CW CS H Q E (if 200 < m then .wrong z else match tRun l b m [] with | .done v _ => .done v (b + m) | r => r) := q
      intro p H1 s1 np hp
      have hs1 := Same.seqT s1 hs
      refine ⟨p, _, rfl, .inl (.inl hp), rfl, _, _, rfl, _, _, rfl, rfl, ?_⟩
      refine ⟨_, rfl, _, _, rfl, rfl, _, rfl, ?_⟩
      by_cases c : 200 < m
      · rw [decide_eq_true (show (200 : Int) < (m : Int) by omega)]
        refine iteT ?_
        rw [if_pos c] at q
        refine ⟨_, rfl, _, rfl, small_log (by omega) (by omega), fun d hd => ?_⟩
        exact q d _ (s1.trans (Same.new hd)) (s1.free hd) upd_same
      · rw [decide_eq_false (show ¬ (200 : Int) < (m : Int) by omega)]
        refine iteF ?_
        rw [if_neg c] at q
        have hbl : b ≤ l.length := cRun_le l z 9 0 0 m b e
        refine ⟨Nat.zero_le _, fun o no => ?_⟩
        refine ⟨_, rfl, _, rfl, _, rfl, _, _, rfl, rfl, _, _, rfl, ⟨by omega, by omega, by omega, by omega⟩, ?_⟩
        rw [show ((b : Int) + (m : Int) - (b : Int)).toNat = m by omega]
        refine for_range (n := m) (fun i σ H2 => ∃ (acc : List Nat) (v5 : Option V), acc.length = i ∧ Sgs acc ∧ σ = [some (.ref a), some (.int z), some (.int m), some (.int b), some (.ref o), v5] ∧ i ≤ m ∧ tRun l (b + i) (m - i) acc = tRun l b m [] ∧ Same H1 H2 ∧ H2 o = some (.lst ((sgl acc).map V.str))) ⟨[], none, rfl, (fun k h => by cases h), rfl, Nat.zero_le _, rfl, Same.new no, upd_same⟩ ?_ ?_
        · rintro i σ H2 hi ⟨acc, v5, hal, hac, rfl, him, ht, s2, ho⟩
          have hs2 := Same.seqT s2 hs1
          rw [show m - i = (m - (i + 1)) + 1 by omega, tRun] at ht
          refine ⟨_, rfl, _, rfl, a, _, rfl, .inr hs2, _, _, rfl, rfl, _, rfl, ?_⟩
          rw [bV_len]
          by_cases c0 : l.length ≤ b + i
          · rw [decide_eq_true (show (l.length : Int) ≤ (b : Int) + (i : Int) by omega)]
            refine iteT ?_
            rw [if_pos c0] at ht
            rw [← ht] at q
            exact q _ (s1.trans s2)
          · rw [decide_eq_false (show ¬ (l.length : Int) ≤ (b : Int) + (i : Int) by omega)]
            refine iteF ?_
            rw [if_neg c0] at ht
            have hget := get_some (l := l) (i := b + i) (by omega)
            generalize l.getD (b + i) 0 = k at ht hget
            have slen : sgs.length ≤ sizeLine := by rw [sgs_77]; decide
            refine ⟨_, rfl, _, rfl, a, _, _, _, rfl, rfl, hs2, at_of (j := b + i) (by omega) (bV_at hget), sgs, rfl, slen, _, _, rfl, rfl, _, rfl, ?_⟩
            rw [sgs_77]
            by_cases c1 : 77 ≤ k
            · rw [decide_eq_true (show (((77 : Nat) : Int)) ≤ (k : Int) by omega)]
              refine iteT ?_
              rw [if_pos c1] at ht
              rw [← ht] at q
              refine ⟨_, rfl, _, rfl, small_log (by omega) (by omega), fun d hd => ?_⟩
              refine q d _ ((s1.trans s2).trans (Same.new hd)) ((s1.trans s2).free hd) ?_
              rw [upd_same]
              rfl
            · rw [decide_eq_false (show ¬ (((77 : Nat) : Int)) ≤ (k : Int) by omega)]
              refine iteF ?_
              rw [if_neg c1] at ht
              refine ⟨_, rfl, .inl ⟨rfl, _, SqL.of ho⟩, _, rfl, _, rfl, a, _, _, _, rfl, rfl, hs2, at_of (j := b + i) (by omega) (bV_at hget), sgs, (k : Int), sg k, rfl, rfl, slen, sg_at (by omega), o, _, _, rfl, rfl, ho, ?_, ?_⟩
              · rw [List.length_map]
                unfold sgl
                rw [List.length_map, hal]
                exact Nat.lt_of_lt_of_le (show i < 200 by omega) (by decide)
              · refine ⟨acc ++ [k], some (.int ((b : Int) + (i : Int))), by rw [List.length_append, hal]; rfl, fun y hy => ?_, rfl, by omega, ht, fun x u hx => ?_, ?_⟩
                · rcases List.mem_append.mp hy with hy | hy
                  · exact hac y hy
                  · rw [List.mem_singleton.mp hy]
                    omega
                · rw [upd_ne (ne_of_none hx no)]
                  exact s2 x u hx
                · rw [upd_same]
                  unfold sgl
                  rw [List.map_append, List.map_append]
                  rfl
        · rintro σ H2 ⟨acc, v5, hal, hac, rfl, him, ht, s2, ho⟩
          rw [Nat.sub_self, tRun] at ht
          rw [← ht] at q
          have q : RQV CW CS H Q E (.done (.txt acc) (b + m)) := q
          refine ⟨⟨_, rfl⟩, _, rfl, Str.ofString "", o, sgl acc, rfl, rfl, .inl (SqL.of ho), ?_, _, rfl, _, rfl, _, _, rfl, rfl, (by show 2 ≤ sizeLine; decide), fun p2 np2 => ?_⟩
          · rw [sgl_sum]
            have : (Str.ofString "").length = 0 := by rfl
            rw [this]
            omega
          · refine q p2 _ ((s1.trans s2).trans (Same.new np2)) ((s1.trans s2).free np2) ?_
            rw [upd_same, join_sgl]
            rfl
end
end K01
namespace K01
open PySem L2  RZ Cnt
abbrev svalue_from : Stmt := top 23
abbrev nvalue_from : List Str := ["octets", "at"]
abbrev pvalue_from : List Str := ["octets", "at"]
theorem scvalue_from : FnScope nvalue_from pvalue_from (defScope svalue_from) := ⟨rfl, rfl, rfl, by decide +kernel, rfl, by decide +kernel, by decide +kernel⟩
abbrev sread_text : Stmt := top 26
abbrev nread_text : List Str := ["octets", "at"]
abbrev pread_text : List Str := ["octets", "at"]
theorem scread_text : FnScope nread_text pread_text (defScope sread_text) := ⟨rfl, rfl, rfl, by decide +kernel, rfl, by decide +kernel, by decide +kernel⟩
abbrev sread_value : Stmt := top 28
abbrev nread_value : List Str := ["octets", "at"]
abbrev pread_value : List Str := ["octets", "at"]
theorem scread_value : FnScope nread_value pread_value (defScope sread_value) := ⟨rfl, rfl, rfl, by decide +kernel, rfl, by decide +kernel, by decide +kernel⟩
section
variable {P : Program} {w : World} {K : PySem.W.Frag} {mg : Str → Option Value} {base : Heap} {CW CS fI : Addr}
theorem RQV.same {H H1 : Hp} {Q : VK} {E : XK} (s : Same H H1) : ∀ {r : RV}, RQV CW CS H Q E r → RQV CW CS H1 Q E r
  | .done _ _, h => fun p H' s1 np hp => h p H' (s.trans s1) (s.free np) hp
  | .short, h => fun H' s1 => h H' (s.trans s1)
  | .wrong _, h => fun d H' s1 nd hd => h d H' (s.trans s1) (s.free nd) hd
theorem ok_rt {f fR fF : Addr} {fd fdR fdF : FuncData} (D : Dfn K mg "read_text" sread_text pread_text f fd) (DR : Dfn K mg "check_reading" scheck_reading pcheck_reading fR fdR) (GR : FnOk P w K mg base CX0 2 fR fdR pcheck_reading (spCR K))
    (DF : Dfn K mg "text_from" stext_from ptext_from fF fdF) (GF : FnOk P w K mg base (L2.CX P w) 4 fF fdF ptext_from (spIF K CW CS tFrom)) : FnOk P w K mg base (L2.CX P w) 5 f fd pread_text (spIF K CW CS tFrom) := by
  have nd := scread_text.nd
  refine D.F.okX scread_text (fun vs H Q E h => ?_) (fun cdv A outer s H vs Q E hr h => ?_)
  · obtain ⟨a, l, z, rfl, _⟩ := h
    rfl
  · obtain ⟨a, l, z, rfl, hs, hb, hz, hl, q⟩ := h
    have hr2 : Room 2 _ := hr.mono (by decide)
    refine ⟨_, pss_cons (ps_expr (pe_call GR hr2 (by rfl) DR.g DR.F.kp DR.b .nil pass0 (pa_cons (pv 0) (pa_cons (pv 1) pa_nil))))
      (pss_one (ps_ret (pe_callS GF hr (by rfl) DF.g DF.F.kp DF.b (fun σ => passAt (takes_of (E := E) rfl rfl rfl rfl) σ) (by exact (pa_cons (pv 0) (pa_cons (pv 1) pa_nil)))))), ?_⟩
    refine ⟨_, rfl, _, rfl, a, l, z, rfl, hs, hb, hz, hl, fun H1 s1 => ?_⟩
    exact ⟨_, rfl, _, rfl, a, l, z, rfl, Same.seqT s1 hs, hb, hz, hl, RQV.same s1 q⟩
theorem ok_rv {f fR fF : Addr} {fd fdR fdF : FuncData} (D : Dfn K mg "read_value" sread_value pread_value f fd) (DR : Dfn K mg "check_reading" scheck_reading pcheck_reading fR fdR) (GR : FnOk P w K mg base CX0 2 fR fdR pcheck_reading (spCR K))
    (DF : Dfn K mg "value_from" svalue_from pvalue_from fF fdF) (GF : FnOk P w K mg base (L2.CX P w) 5 fF fdF pvalue_from (spIF K CW CS vFrom)) : FnOk P w K mg base (L2.CX P w) 6 f fd pread_value (spIF K CW CS vFrom) := by
  have nd := scread_value.nd
  refine D.F.okX scread_value (fun vs H Q E h => ?_) (fun cdv A outer s H vs Q E hr h => ?_)
  · obtain ⟨a, l, z, rfl, _⟩ := h
    rfl
  · obtain ⟨a, l, z, rfl, hs, hb, hz, hl, q⟩ := h
    have hr2 : Room 2 _ := hr.mono (by decide)
    refine ⟨_, pss_cons (ps_expr (pe_call GR hr2 (by rfl) DR.g DR.F.kp DR.b .nil pass0 (pa_cons (pv 0) (pa_cons (pv 1) pa_nil))))
      (pss_one (ps_ret (pe_callS GF hr (by rfl) DF.g DF.F.kp DF.b (fun σ => passAt (takes_of (E := E) rfl rfl rfl rfl) σ) (by exact (pa_cons (pv 0) (pa_cons (pv 1) pa_nil)))))), ?_⟩
    refine ⟨_, rfl, _, rfl, a, l, z, rfl, hs, hb, hz, hl, fun H1 s1 => ?_⟩
    exact ⟨_, rfl, _, rfl, a, l, z, rfl, Same.seqT s1 hs, hb, hz, hl, RQV.same s1 q⟩
theorem ok_vf {f fT fN : Addr} {fd fdT fdN : FuncData} (D : Dfn K mg "value_from" svalue_from pvalue_from f fd) (B : Bi mg) (TW : PySem.WrX.WrTxt P K mg "Wrong" CW fI) (TS : ShTxt K mg "Short" CS)
    (DT : Dfn K mg "text_from" stext_from ptext_from fT fdT) (GT : FnOk P w K mg base (L2.CX P w) 4 fT fdT ptext_from (spIF K CW CS tFrom)) (DN : Dfn K mg "integer_from" sinteger_from pinteger_from fN fdN) (GN : FnOk P w K mg base (L2.CX P w) 4 fN fdN pinteger_from (spIF K CW CS iFrom)) :
    FnOk P w K mg base (L2.CX P w) 5 f fd pvalue_from (spIF K CW CS vFrom) := by
  have nd := scvalue_from.nd
  refine D.F.okX scvalue_from (fun vs H Q E h => ?_) (fun cdv A outer s H vs Q E hr h => ?_)
  · obtain ⟨a, l, z, rfl, _⟩ := h
    rfl
  · obtain ⟨a, l, z, rfl, hs, hb, hz, hl, q⟩ := h
    refine ⟨_, pss_cons (ps_if (pt_cmpR op_ge (pv 1) (pe_callB call_len_seq (by rfl) B.len PySem.boot_len (pa_cons (pv 0) pa_nil)) (nomark _)) (pss_one (ps_raise rfl (takes_of rfl rfl rfl rfl) (pmk_own PySem.F.excBase_ValueError TS.q TS.g TS.k (raises_own TS.ex TS.ty) (by rfl)))) pss_nil)
      (pss_cons (ps_if (pt_cmpR op_gt (pe_ix ix_tup (pv 0) (pv 1) (fun _ _ => rfl)) pe_int (nomark _)) (pss_one (ps_raiseWr rfl TW hr (takes_of rfl rfl rfl rfl) (by exact (pa_cons (pv 1) pa_nil)) (by rfl))) pss_nil)
      (pss_cons (ps_if (pt_cmpR op_eq (pe_ix ix_tup (pv 0) (pv 1) (fun _ _ => rfl)) pe_int (nomark _)) (pss_one (ps_ret (pe_tup (pa_cons pe_non (pa_cons (pe_op op_add (pv 1) pe_int) pa_nil))))) pss_nil)
      (pss_cons (ps_if (pt_cmpR op_eq (pe_ix ix_tup (pv 0) (pv 1) (fun _ _ => rfl)) pe_int (nomark _)) (pss_one (ps_ret (pe_callS GN hr (by rfl) DN.g DN.F.kp DN.b (fun σ => passAt (takes_of (E := E) rfl rfl rfl rfl) σ) (by exact (pa_cons (pv 0) (pa_cons (pe_op op_add (pv 1) pe_int) pa_nil)))))) pss_nil)
      (pss_one (ps_ret (pe_callS GT hr (by rfl) DT.g DT.F.kp DT.b (fun σ => passAt (takes_of (E := E) rfl rfl rfl rfl) σ) (by exact (pa_cons (pv 0) (pa_cons (pe_op op_add (pv 1) pe_int) pa_nil))))))))), ?_⟩
    unfold vFrom at q
    refine ⟨_, rfl, _, rfl, a, _, rfl, .inr hs, _, _, rfl, rfl, _, rfl, ?_⟩
    rw [bV_len]
    by_cases c0 : l.length ≤ z
    · rw [decide_eq_true (show (l.length : Int) ≤ (z : Int) by omega)]
      refine iteT ?_
      rw [if_pos c0] at q
      exact q _ (fun _ _ h => h)
    · rw [decide_eq_false (show ¬ (l.length : Int) ≤ (z : Int) by omega)]
      refine iteF ?_
      rw [if_neg c0] at q
      have hget := get_some (l := l) (i := z) (by omega)
      generalize l.getD z 0 = k at q hget
      have ix := at_of (j := z) (z := (z : Int)) rfl (bV_at hget)
      refine ⟨_, rfl, _, rfl, a, _, _, _, rfl, rfl, hs, ix, _, _, rfl, rfl, _, rfl, ?_⟩
      by_cases c1 : 2 < k
      · rw [decide_eq_true (show (2 : Int) < (k : Int) by omega)]
        refine iteT ?_
        rw [if_pos c1] at q
        refine ⟨_, rfl, _, rfl, small_log (by omega) (by omega), fun d hd => ?_⟩
        exact q d _ (Same.new hd) hd upd_same
      · rw [decide_eq_false (show ¬ (2 : Int) < (k : Int) by omega)]
        refine iteF ?_
        rw [if_neg c1] at q
        refine ⟨_, rfl, _, rfl, a, _, _, _, rfl, rfl, hs, ix, rfl, _, int_eq0 k, ?_⟩
        by_cases c2 : k = 0
        · rw [decide_eq_true c2]
          refine iteT ?_
          rw [if_pos c2] at q
          exact ⟨_, rfl, _, _, rfl, rfl, (by show 2 ≤ sizeLine; decide), fun p np => q p _ (Same.new np) np upd_same⟩
        · rw [decide_eq_false c2]
          refine iteF ?_
          rw [if_neg c2] at q
          refine ⟨_, rfl, _, rfl, a, _, _, _, rfl, rfl, hs, ix, rfl, _, int_eqN k 1, ?_⟩
          by_cases c3 : k = 1
          · rw [decide_eq_true c3]
            refine iteT ?_
            rw [if_pos c3] at q
            exact ⟨_, rfl, _, rfl, _, _, rfl, rfl, a, l, z + 1, rfl, hs, hb, by omega, hl, q⟩
          · rw [decide_eq_false c3]
            refine iteF ?_
            rw [if_neg c3] at q
            exact ⟨_, rfl, _, rfl, _, _, rfl, rfl, a, l, z + 1, rfl, hs, hb, by omega, hl, q⟩
end
end K01
namespace K01
open PySem L2  RZ Cnt
/-! ### the law's draws of texts and values -/
abbrev s_law_signs_row : Stmt := top 32
abbrev n_law_signs_row : List Str := []
abbrev p_law_signs_row : List Str := []
theorem sc_law_signs_row : FnScope n_law_signs_row p_law_signs_row (defScope s_law_signs_row) := ⟨rfl, rfl, rfl, by decide +kernel, rfl, by decide +kernel, by decide +kernel⟩
def spRow : Sp := fun vs H Q _ => vs = [] ∧ Q (.str sgs) H
abbrev s_law_some_text : Stmt := top 33
abbrev n_law_some_text : List Str := ["row", "most", "k"]
abbrev p_law_some_text : List Str := ["row", "most"]
theorem sc_law_some_text : FnScope n_law_some_text p_law_some_text (defScope s_law_some_text) := ⟨rfl, rfl, rfl, by decide +kernel, rfl, by decide +kernel, by decide +kernel⟩
def spST (K : PySem.W.Frag) : Sp := fun vs H Q _ => ∃ (r sc : Addr) (ns : List Int) (most : Nat), vs = [.ref r, .int most] ∧ RowI K H r sc ns ∧ most ≤ 1000 ∧
  ∀ (l : List Nat) (H' : Hp), Sgs l → l.length ≤ most → RowI K H' r sc ns → Keep r H H' → Q (.str (tx l)) H'
abbrev s_law_signed : Stmt := top 34
abbrev n_law_signed : List Str := ["row", "most"]
abbrev p_law_signed : List Str := ["row", "most"]
theorem sc_law_signed : FnScope n_law_signed p_law_signed (defScope s_law_signed) := ⟨rfl, rfl, rfl, by decide +kernel, rfl, by decide +kernel, by decide +kernel⟩
def spSgd (K : PySem.W.Frag) : Sp := fun vs H Q _ => ∃ (r sc : Addr) (ns : List Int) (most : Nat), vs = [.ref r, .int most] ∧ RowI K H r sc ns ∧ most ≤ 1099511627776 ∧
  ∀ (i : Int) (H' : Hp), -(most : Int) ≤ i → i ≤ most → RowI K H' r sc ns → Keep r H H' → Q (.int i) H'
theorem signs_in {v : V} (h : v ∈ signs1 sgs) : ∃ k, k < 77 ∧ v = .str ⟨#[sg k]⟩ := by
  unfold signs1 at h
  obtain ⟨c, hc, rfl⟩ := List.mem_map.mp h
  obtain ⟨k, hk⟩ := List.getElem?_of_mem hc
  have e0 : sgs.cps.toList.length = 77 := by decide +kernel
  have hk77 : k < 77 := by
    have := (List.getElem?_eq_some_iff.mp hk).1
    omega
  have := sg_get k hk77
  rw [hk] at this
  exact ⟨k, hk77, by rw [Option.some.inj this]⟩
theorem signs_len : (signs1 sgs).length = 77 := by
  unfold signs1
  rw [List.length_map]
  decide +kernel
section
variable {P : Program} {w : World} {K : PySem.W.Frag} {mg : Str → Option Value} {base : Heap}
theorem ok_row {f : Addr} {fd : FuncData} (D : Dfn K mg "_law_signs_row" s_law_signs_row p_law_signs_row f fd) : FnOk P w K mg base CX0 1 f fd p_law_signs_row spRow := by
  have nd := sc_law_signs_row.nd
  refine D.F.ok sc_law_signs_row (fun vs H Q E h => ?_) (fun cdv A outer s H vs Q E hr h => ?_)
  · obtain ⟨rfl, _⟩ := h
    rfl
  · obtain ⟨rfl, q⟩ := h
    refine ⟨_, pss_one (ps_ret pe_str), ?_⟩
    exact q
theorem ok_st {f fT fP fR : Addr} {fd fdT fdP fdR : FuncData} (D : Dfn K mg "_law_some_text" s_law_some_text p_law_some_text f fd) (B : Bi mg) (DT : Dfn K mg "_law_taken" s_law_taken p_law_taken fT fdT) (GT : FnOk P w K mg base CX0 1 fT fdT p_law_taken (spTaken K))
    (DP : Dfn K mg "_law_pick" s_law_pick p_law_pick fP fdP) (GP : FnOk P w K mg base CX0 2 fP fdP p_law_pick (spPick K)) (DR : Dfn K mg "_law_signs_row" s_law_signs_row p_law_signs_row fR fdR) : FnOk P w K mg base CX0 3 f fd p_law_some_text (spST K) := by
  have nd := sc_law_some_text.nd
  have GR : FnOk P w K mg base CX0 1 fR fdR p_law_signs_row spRow := ok_row DR
  refine D.F.ok sc_law_some_text (fun vs H Q E h => ?_) (fun cdv A outer s H vs Q E hr h => ?_)
  · obtain ⟨r, sc, ns, most, rfl, _⟩ := h
    rfl
  · obtain ⟨r, sc, ns, most, rfl, R, hm, q⟩ := h
    have hr1 : Room 1 _ := hr.mono (by decide)
    refine ⟨_, pss_one (ps_ret (pe_join pe_str
      (pe_lc (own := [("k", 2)]) (g := gName 2) (tt := tYes) (te := tCall (spPick K) [] E0 (tCons (tVar 0) (tCons (tCB rListS (tCons (tCall spRow [] E0 tNil) tNil)) tNil))) rfl nd (pi_range1 (by rfl) B.range (pa_cons (pe_call GT hr1 (by rfl) DT.g DT.F.kp DT.b .nil pass0 (pa_cons (pv 0) (pa_cons (pe_op op_add (pv 1) pe_int) pa_nil))) pa_nil))
        (blkOk_by (N := n_law_some_text) (sc := defScope s_law_some_text) (by decide +kernel)) (fun _ _ _ _ _ => pg_name (i := 2) nd rfl (.inl rfl)) (fun _ _ _ _ _ => pts_nil)
        (fun _ _ _ _ _ => by exact pe_call GP hr (by rfl) DP.g DP.F.kp DP.b .nil pass0 (pa_cons (pv 0) (pa_cons (pe_callTy (call_list_strS rfl) (by rfl) B.list (by decide +kernel) (pa_cons (pe_call0 GR hr1 (by rfl) DR.g DR.F.kp DR.b .nil pass0) pa_nil)) pa_nil)))))), ?_⟩
    refine ⟨⟨_, rfl⟩, _, rfl, _, rfl, _, _, rfl, rfl, r, sc, ns, _, rfl, R, by omega, by omega, fun v H1 v0 v1 R1 k1 => ?_⟩
    refine ⟨v, rfl, by omega, by omega, fun Dl hD => ?_⟩
    have nDr : Dl ≠ r := R1.new hD
    have hDH : H Dl = none := k1.free hD nDr
    refine lc_range (lo := 0) (n := v.toNat) (fun i H2 => ∃ l : List Nat, l.length = i ∧ Sgs l ∧ H2 Dl = some (.lst ((sgl l).map V.str)) ∧ RowI K H2 r sc ns ∧ Keep r H H2) ?_ ?_ ?_
    · exact ⟨[], rfl, (fun o h => by cases h), upd_same, R1.same (Same.new hD), k1.trans (Keep.new hD)⟩
    · rintro i H2 hi ⟨l, hl, hb, hd, R2, k2⟩
      refine ⟨rfl, ?_⟩
      refine yes ?_
      refine ⟨_, rfl, rfl, ?_⟩
      refine ⟨sgs, rfl, by rw [show sgs.cps.size = 77 from sgs_len]; decide, fun p hp => ?_⟩
      have npr : p ≠ r := R2.new hp
      have R2' := R2.same (Same.new (o := .lst (signs1 sgs)) hp)
      refine ⟨r, sc, ns, p, signs1 sgs, rfl, R2', SqL.of upd_same, npr, by rw [signs_len]; decide, by rw [signs_len]; decide, fun u H3 hu R3 k3 => ?_⟩
      obtain ⟨c, hc, rfl⟩ := signs_in hu
      have hpD : Dl ≠ p := fun z => by rw [z, hp] at hd; cases hd
      have hd3 : H3 Dl = some (.lst ((sgl l).map V.str)) := k3 _ _ nDr (by rw [upd_ne hpD]; exact hd)
      have kk0 : Keep r H H3 := k2.trans ((Keep.new hp).trans k3)
      have kk : Keep r H (L2.upd H3 Dl (.lst ((sgl l).map V.str ++ [.str ⟨#[sg c]⟩]))) := fun b o n e => by
        rw [upd_ne (ne_of_none e hDH)]
        exact kk0 b o n e
      refine ⟨_, hd3, ?_, l ++ [c], by rw [List.length_append, hl]; rfl, ?_, ?_, R3.ups R nDr kk, kk⟩
      · rw [List.length_map]
        unfold sgl
        rw [List.length_map, hl]
        exact Nat.lt_of_lt_of_le hi (Nat.le_trans (by omega : v.toNat ≤ 10000) (by decide))
      · intro o ho
        rcases List.mem_append.mp ho with ho | ho
        · exact hb o ho
        · rw [List.mem_singleton.mp ho]
          exact hc
      · rw [upd_same]
        unfold sgl
        rw [List.map_append, List.map_append]
        rfl
    · rintro H2 ⟨l, hl, hb, hd, R2, k2⟩
      refine ⟨Str.ofString "", Dl, sgl l, rfl, rfl, .inl (SqL.of hd), ?_, ?_⟩
      · rw [sgl_sum]
        have : (Str.ofString "").length = 0 := by rfl
        rw [this]
        omega
      · rw [join_sgl]
        exact q l _ hb (by omega) R2 k2
theorem ok_sgd {f fT : Addr} {fd fdT : FuncData} (D : Dfn K mg "_law_signed" s_law_signed p_law_signed f fd) (DT : Dfn K mg "_law_taken" s_law_taken p_law_taken fT fdT) (GT : FnOk P w K mg base CX0 1 fT fdT p_law_taken (spTaken K)) : FnOk P w K mg base CX0 2 f fd p_law_signed (spSgd K) := by
  have nd := sc_law_signed.nd
  refine D.F.ok sc_law_signed (fun vs H Q E h => ?_) (fun cdv A outer s H vs Q E hr h => ?_)
  · obtain ⟨r, sc, ns, most, rfl, _⟩ := h
    rfl
  · obtain ⟨r, sc, ns, most, rfl, R, hm, q⟩ := h
    refine ⟨_, pss_one (ps_ret (pe_op op_sub (pe_call GT hr (by rfl) DT.g DT.F.kp DT.b .nil pass0 (pa_cons (pv 0) (pa_cons (pe_op op_add (pe_op op_mul pe_int (pv 1)) pe_int) pa_nil))) (pv 1))), ?_⟩
    refine ⟨_, rfl, _, rfl, _, _, rfl, rfl, .inl ⟨by decide, by decide⟩, _, _, rfl, rfl, r, sc, ns, _, rfl, R, by omega, by omega, fun v H1 v0 v1 R1 k1 => ?_⟩
    exact ⟨_, rfl, _, _, rfl, rfl, q _ _ (by omega) (by omega) R1 k1⟩
end
abbrev s_law_some_value : Stmt := top 35
abbrev n_law_some_value : List Str := ["row", "way"]
abbrev p_law_some_value : List Str := ["row"]
theorem sc_law_some_value : FnScope n_law_some_value p_law_some_value (defScope s_law_some_value) := ⟨rfl, rfl, rfl, by decide +kernel, rfl, by decide +kernel, by decide +kernel⟩
def spSV (K : PySem.W.Frag) : Sp := fun vs H Q _ => ∃ (r sc : Addr) (ns : List Int), vs = [.ref r] ∧ RowI K H r sc ns ∧
  ∀ (v : Val) (H' : Hp), VOk v → RowI K H' r sc ns → Keep r H H' → Q (vV v) H'
section
variable {P : Program} {w : World} {K : PySem.W.Frag} {mg : Str → Option Value} {base : Heap}
theorem ok_sv {f fT fP fS fG : Addr} {fd fdT fdP fdS fdG : FuncData} (D : Dfn K mg "_law_some_value" s_law_some_value p_law_some_value f fd) (DT : Dfn K mg "_law_taken" s_law_taken p_law_taken fT fdT) (GT : FnOk P w K mg base CX0 1 fT fdT p_law_taken (spTaken K))
    (DP : Dfn K mg "_law_pick" s_law_pick p_law_pick fP fdP) (GP : FnOk P w K mg base CX0 2 fP fdP p_law_pick (spPick K)) (DS : Dfn K mg "_law_some_text" s_law_some_text p_law_some_text fS fdS) (GS : FnOk P w K mg base CX0 3 fS fdS p_law_some_text (spST K))
    (DG : Dfn K mg "_law_signed" s_law_signed p_law_signed fG fdG) (GG : FnOk P w K mg base CX0 2 fG fdG p_law_signed (spSgd K)) : FnOk P w K mg base CX0 4 f fd p_law_some_value (spSV K) := by
  have nd := sc_law_some_value.nd
  refine D.F.ok sc_law_some_value (fun vs H Q E h => ?_) (fun cdv A outer s H vs Q E hr h => ?_)
  · obtain ⟨r, sc, ns, rfl, _⟩ := h
    rfl
  · obtain ⟨r, sc, ns, rfl, R, q⟩ := h
    have hr1 : Room 1 _ := hr.mono (by decide)
    have hr2 : Room 2 _ := hr.mono (by decide)
    refine ⟨_, pss_cons (ps_set (i := 1) nd rfl (.inl rfl) (pe_call GT hr1 (by rfl) DT.g DT.F.kp DT.b .nil pass0 (pa_cons (pv 0) (pa_cons pe_int pa_nil))))
      (pss_cons (ps_if (pt_cmpR op_lt (pv 1) pe_int (nomark _)) (pss_one (ps_ret (pe_call GS hr (by rfl) DS.g DS.F.kp DS.b .nil pass0 (pa_cons (pv 0) (pa_cons (pe_ix ix_list (pe_lst (pa_cons pe_int (pa_cons pe_int (pa_cons pe_int pa_nil)))) (pv 1) (fun _ _ => rfl)) pa_nil))))) pss_nil)
      (pss_one (ps_ret (pe_ifExp (pt_cmpR op_eq (pv 1) pe_int (nomark _)) pe_non
        (pe_call GG hr2 (by rfl) DG.g DG.F.kp DG.b .nil pass0 (pa_cons (pv 0) (pa_cons (pe_call GP hr2 (by rfl) DP.g DP.F.kp DP.b .nil pass0 (pa_cons (pv 0) (pa_cons (pe_lst (pa_cons pe_int (pa_cons pe_int (pa_cons pe_int (pa_cons (pe_op op_shl pe_int pe_int) pa_nil))))) pa_nil))) pa_nil))))))), ?_⟩
    refine ⟨_, rfl, r, sc, ns, 6, rfl, R, by decide, by decide, fun v H1 v0 v1 R1 k1 => ?_⟩
    obtain ⟨n, rfl⟩ : ∃ n : Nat, v = (n : Int) := ⟨v.toNat, by omega⟩
    refine ⟨_, rfl, _, _, rfl, rfl, _, rfl, ?_⟩
    by_cases c : n < 3
    · rw [decide_eq_true (show (n : Int) < 3 by omega)]
      refine iteT ?_
      refine ⟨_, rfl, (by show 3 ≤ sizeLine; decide), fun p hp => ?_⟩
      have npr : p ≠ r := R1.new hp
      obtain ⟨m, hm, hmb⟩ : ∃ m : Nat, atI [V.int 3, V.int 12, V.int 200] (n : Int) = some (V.int (m : Int)) ∧ m ≤ 200 := by
        rcases (by omega : n = 0 ∨ n = 1 ∨ n = 2) with rfl | rfl | rfl
        · exact ⟨3, by decide, by decide⟩
        · exact ⟨12, by decide, by decide⟩
        · exact ⟨200, by decide, by decide⟩
      refine ⟨_, rfl, p, _, _, _, rfl, rfl, SqL.of upd_same, hm, ?_⟩
      refine ⟨r, sc, ns, m, rfl, R1.same (Same.new hp), by omega, fun l H2 hl hz R2 k2 => ?_⟩
      exact q (.txt l) H2 ⟨hl, by omega⟩ R2 (k1.trans ((Keep.new hp).trans k2))
    · rw [decide_eq_false (show ¬ (n : Int) < 3 by omega)]
      refine iteF ?_
      refine ⟨_, rfl, rfl, _, rfl, ?_⟩
      by_cases c3 : n = 3
      · subst c3
        refine iteT ?_
        exact q .non H1 True.intro R1 k1
      · rw [show (decide (V.int ((n : Nat) : Int) = V.int 3)) = false from decide_eq_false fun e => c3 (by injection e with e; omega)]
        refine iteF ?_
        refine ⟨_, rfl, _, rfl, _, _, rfl, rfl, ⟨by decide, by decide, by decide⟩, (by show 4 ≤ sizeLine; decide), fun p hp => ?_⟩
        have npr : p ≠ r := R1.new hp
        refine ⟨r, sc, ns, p, _, rfl, R1.same (Same.new hp), SqL.of upd_same, npr, by decide, by decide, fun u H2 hu R2 k2 => ?_⟩
        obtain ⟨m, rfl, hmb⟩ : ∃ m : Nat, u = V.int (m : Int) ∧ m ≤ 1099511627776 := by
          rcases List.mem_cons.mp hu with rfl | hu
          · exact ⟨3, rfl, by decide⟩
          rcases List.mem_cons.mp hu with rfl | hu
          · exact ⟨70, rfl, by decide⟩
          rcases List.mem_cons.mp hu with rfl | hu
          · exact ⟨20000, rfl, by decide⟩
          · rw [List.mem_singleton.mp hu]
            exact ⟨1099511627776, by rfl, by decide⟩
        refine ⟨r, sc, ns, m, rfl, R2, hmb, fun i H3 h1 h2 R3 k3 => ?_⟩
        exact q (.int i) H3 ⟨by omega, by omega⟩ R3 (k1.trans ((Keep.new hp).trans (k2.trans k3)))
end
end K01
namespace K01
open PySem L2  RZ Cnt
/-! ### the law's own octets of texts and values -/
def vD : Val → PyData
  | .non => .none
  | .int i => .int i
  | .txt l => .str (tx l)
theorem vD_dp {K : PySem.W.Frag} {H : Hp} : ∀ v : Val, Dp K H (vV v) (vD v)
  | .non => .non
  | .int i => .int i
  | .txt l => .str _
abbrev s_law_text_octets : Stmt := top 40
abbrev n_law_text_octets : List Str := ["text", "sign"]
abbrev p_law_text_octets : List Str := ["text"]
theorem sc_law_text_octets : FnScope n_law_text_octets p_law_text_octets (defScope s_law_text_octets) := ⟨rfl, rfl, rfl, by decide +kernel, rfl, by decide +kernel, by decide +kernel⟩
abbrev s_law_value_octets : Stmt := top 41
abbrev n_law_value_octets : List Str := ["value"]
abbrev p_law_value_octets : List Str := ["value"]
theorem sc_law_value_octets : FnScope n_law_value_octets p_law_value_octets (defScope s_law_value_octets) := ⟨rfl, rfl, rfl, by decide +kernel, rfl, by decide +kernel, by decide +kernel⟩
section
variable {P : Program} {w : World} {K : PySem.W.Frag} {mg : Str → Option Value} {base : Heap}
theorem ok_lto {f fC fR : Addr} {fd fdC fdR : FuncData} (D : Dfn K mg "_law_text_octets" s_law_text_octets p_law_text_octets f fd) (B : Bi mg) (DC : Dfn K mg "_law_groups" s_law_groups p_law_groups fC fdC) (GC : FnOk P w K mg base CX0 1 fC fdC p_law_groups spCO)
    (DR : Dfn K mg "_law_signs_row" s_law_signs_row p_law_signs_row fR fdR) : FnOk P w K mg base CX0 2 f fd p_law_text_octets spTO := by
  have nd := sc_law_text_octets.nd
  have GR : FnOk P w K mg base CX0 1 fR fdR p_law_signs_row spRow := ok_row DR
  refine D.F.ok sc_law_text_octets (fun vs H Q E h => ?_) (fun cdv A outer s H vs Q E hr h => ?_)
  · obtain ⟨l, rfl, _⟩ := h
    rfl
  · obtain ⟨l, rfl, hl, hz, q⟩ := h
    have hlen : (tx l).length ≤ sizeLine := by rw [tx_len]; exact Nat.le_trans hz (by decide)
    refine ⟨_, pss_one (ps_ret (pe_op op_catA (pe_call GC hr (by rfl) DC.g DC.F.kp DC.b .nil pass0 (pa_cons (pe_callB call_len_str (by rfl) B.len PySem.boot_len (pa_cons (pv 0) pa_nil)) pa_nil))
      (pe_callTy call_tuple_of (by rfl) B.tuple (by decide +kernel) (pa_cons (pe_lc (own := [("sign", 1)]) (g := gName 1) (tt := tYes) (te := tBM K "str" (fun x xs H Q => ∃ (a b : Str) (i : Nat) (rest : List Nat), x = .str a ∧ xs = [.str b] ∧ Builtin.Str.occurrences a b 0 a.length 1 = i :: rest ∧ Q (.int (i : Nat)) H) (tCall spRow [] E0 tNil) (tCons (tVar 1) tNil)) rfl nd (pi_str (pv 0))
        (blkOk_by (N := n_law_text_octets) (sc := defScope s_law_text_octets) (by decide +kernel)) (fun _ _ _ _ _ => pg_name (i := 1) nd rfl (.inl rfl)) (fun _ _ _ _ _ => pts_nil)
        (fun _ _ _ _ _ => by exact pe_bm PySem.F.plainAttrs_str PySem.F.slot_str_index PySem.F.type_str_index mt_sindex (pe_call0 GR hr (by rfl) DR.g DR.F.kp DR.b .nil pass0) (pa_cons (pv 1) pa_nil))) pa_nil)))), ?_⟩
    refine ⟨_, rfl, tx l, rfl, hlen, l.length, by rw [tx_len]; rfl, by omega, fun c H1 s1 nc hc => ?_⟩
    refine ⟨_, rfl, tx l, rfl, fun Dl hD => ?_⟩
    have hDc : Dl ≠ c := fun z => by rw [z, hc] at hD; cases hD
    refine lc_it walk_str (fun i H2 => Same H1 H2 ∧ H2 Dl = some (.lst (bV (l.take i)))) ?_ ?_ ?_ ?_
    · exact ⟨Same.new hD, upd_same⟩
    · exact fun _ _ _ _ => True.intro
    · rintro i x H2 H3 hi ⟨s2, h2⟩ ⟨rfl, ch, hch, rfl⟩
      obtain ⟨k, hk, rfl⟩ : ∃ k, l[i]? = some k ∧ ch = sg k := by
        have : (l.map sg)[i]? = some ch := by simpa [tx] using hch
        rw [List.getElem?_map] at this
        cases e : l[i]? with
        | none => rw [e] at this; cases this
        | some k => rw [e] at this; exact ⟨k, rfl, (Option.some.inj this).symm⟩
      have hk77 := hl k (List.mem_of_getElem? hk)
      refine ⟨rfl, ?_⟩
      refine yes ?_
      refine ⟨rfl, rfl, _, rfl, sgs, ⟨#[sg k]⟩, k, [], rfl, rfl, occ_sg k hk77, _, h2, ?_, fun b u hb => ?_, ?_⟩
      · rw [bV_len, List.length_take]
        exact Nat.lt_of_le_of_lt (Nat.min_le_right _ _) (Nat.lt_of_le_of_lt hz (by decide))
      · rw [upd_ne (ne_of_none hb hD)]
        exact s2 b u hb
      · rw [upd_same, take_more hk, bV_app]
    · rintro H2 ⟨s2, h2⟩
      have e : (tx l).cps.size = l.length := tx_len l
      rw [e, take_all] at h2
      refine ⟨Dl, _, rfl, .inl ⟨SqL.of h2, fun p np => ?_⟩⟩
      have s3 : Same H2 (upd H2 p (.tup (bV l))) := Same.new np
      refine ⟨c, p, bV (cOct l.length), bV l, rfl, rfl, .inl (.inl (s3 _ _ (s2 _ _ hc))), .inl (.inl upd_same), ?_, fun z => ?_, fun _ z => ?_, fun _ _ p2 np2 => ?_⟩
      · rw [bV_len, bV_len]
        exact Nat.le_trans (show (cOct l.length).length + l.length ≤ 300 by have := cOct_len 8 l.length (by omega); omega) (by decide)
      · have := congrArg List.length z
        rw [bV_len] at this
        have := cOct_pos l.length
        have : (cOct l.length).length = 0 := by assumption
        omega
      · have := congrArg List.length z
        rw [bV_len] at this
        have e0 : l = [] := List.eq_nil_of_length_eq_zero this
        refine q c _ ((s1.trans s2).trans s3) nc ?_
        rw [e0, List.append_nil, List.length_nil]
        have hc' := s3 _ _ (s2 _ _ hc)
        rw [e0] at hc'
        exact hc'
      · refine q p2 _ (((s1.trans s2).trans s3).trans (Same.new np2)) (((s1.trans s2).trans s3).free np2) ?_
        rw [upd_same, bV_append]
theorem ok_lvo {f fT fC : Addr} {fd fdT fdC : FuncData} (D : Dfn K mg "_law_value_octets" s_law_value_octets p_law_value_octets f fd) (B : Bi mg) (DT : Dfn K mg "_law_text_octets" s_law_text_octets p_law_text_octets fT fdT) (GT : FnOk P w K mg base CX0 2 fT fdT p_law_text_octets spTO)
    (DC : Dfn K mg "_law_groups" s_law_groups p_law_groups fC fdC) (GC : FnOk P w K mg base CX0 1 fC fdC p_law_groups spCO) : FnOk P w K mg base CX0 3 f fd p_law_value_octets spVO := by
  have nd := sc_law_value_octets.nd
  refine D.F.ok sc_law_value_octets (fun vs H Q E h => ?_) (fun cdv A outer s H vs Q E hr h => ?_)
  · obtain ⟨v, rfl, _⟩ := h
    rfl
  · obtain ⟨v, rfl, hv, q⟩ := h
    have hr1 : Room 1 _ := hr.mono (by decide)
    refine ⟨_, pss_cons (ps_if (pt_cmpR op_isN (pv 0) pe_non (nomark _)) (pss_one (ps_ret (pe_tup (pa_cons pe_int pa_nil)))) pss_nil)
      (pss_cons (ps_if (pt_val (pe_callB call_isi (by rfl) B.isinstance (by decide +kernel) (pa_cons (pv 0) (pa_cons (pe_bltn (v := .ty "str") (by rfl) B.str (by decide +kernel) rfl) pa_nil)))) (pss_one (ps_ret (pe_op op_catT (pe_tup (pa_cons pe_int pa_nil)) (pe_call GT hr (by rfl) DT.g DT.F.kp DT.b .nil pass0 (pa_cons (pv 0) pa_nil))))) pss_nil)
      (pss_one (ps_ret (pe_op op_catT (pe_tup (pa_cons pe_int pa_nil)) (pe_call GC hr1 (by rfl) DC.g DC.F.kp DC.b .nil pass0 (pa_cons (pe_ifExp (pt_cmpR op_ge (pv 0) pe_int (nomark _)) (pe_op op_mul pe_int (pv 0)) (pe_op op_sub (pe_op op_sub pe_int (pe_op op_mul pe_int (pv 0))) pe_int)) pa_nil)))))), ?_⟩
    have cat : ∀ {a n : Nat} {ls : List Nat} {te : TE} {σ : St}, Gd σ H te ls → ls ≠ [] → ls.length ≤ 900 → bV (a :: ls) = bV (vOct v) → tRet (tOp (rCatT K) (tTup (tCons (tC (.int (a : Int))) tNil)) te) { nx := fun _ H' => Q .non H', rt := Q } σ H := fun {a n ls te σ} g h1 h2 e =>
      gd_cat gd_one g (by simp) h1 (by rw [List.length_singleton]; omega) H (fun _ _ h => h) _ fun p H' s hp => q p H' s (hp.trans (congrArg (fun z => some (HO.tup z)) e))
    cases v with
    | non =>
      refine ⟨_, rfl, rfl, _, rfl, ?_⟩
      refine iteT ?_
      exact ⟨(by show 1 ≤ sizeLine; decide), fun p np => q p _ (Same.new np) upd_same⟩
    | txt l =>
      refine ⟨_, rfl, rfl, _, rfl, ?_⟩
      refine iteF ?_
      refine ⟨_, rfl, _, _, _, _, _, rfl, .ty _, Dp.ty (d := .str (tx l)) (.str _), kit_str (fun _ z => nomatch z), _, rfl, ?_⟩
      refine iteT ?_
      refine cat (a := 2) (n := 0) (ls := cOct l.length ++ l) (fun H1 s1 Q1 q1 => ⟨_, rfl, l, rfl, hv.1, hv.2, fun p H' s np hp => q1 p H' s hp⟩) ?_ ?_ rfl
      · intro e
        have hh := congrArg List.length e
        rw [List.length_append, List.length_nil] at hh
        have hp := cOct_pos l.length
        omega
      · rw [List.length_append]
        have := cOct_len 8 l.length (by have := hv.2; omega)
        have := hv.2
        omega
    | int i =>
      have hv' : -1099511627776 ≤ i ∧ i ≤ 1099511627776 := hv
      have zl : zz i < 2 ^ 63 := by unfold zz; split <;> omega
      have cl := cOct_len 8 (zz i) (by rw [show (128 : Nat) = 2 ^ 7 from rfl, ← Nat.pow_mul]; exact zl)
      have cn : cOct (zz i) ≠ [] := fun e => by
        have := cOct_pos (zz i)
        rw [e] at this
        exact absurd this (Nat.lt_irrefl 0)
      refine ⟨_, rfl, rfl, _, rfl, ?_⟩
      refine iteF ?_
      refine ⟨_, rfl, _, _, _, _, _, rfl, .ty _, Dp.ty (d := .int i) (.int _), kit_str (fun _ z => nomatch z), _, rfl, ?_⟩
      refine iteF ?_
      refine cat (a := 1) (n := 0) (ls := cOct (zz i)) (fun H1 s1 Q1 q1 => ?_) cn (by omega) rfl
      refine ⟨_, rfl, _, _, rfl, rfl, _, rfl, ?_⟩
      by_cases c : i < 0
      · rw [decide_eq_false (show ¬ (0 : Int) ≤ i by omega)]
        refine iteF ?_
        have e : 0 - 2 * i - 1 = ((zz i : Nat) : Int) := by unfold zz; rw [if_pos c]; omega
        exact ⟨_, rfl, _, _, rfl, rfl, .inl ⟨by decide, by decide⟩, _, _, rfl, rfl, _, _, rfl, rfl, zz i, congrArg (fun z => [V.int z]) e, zl, fun p H' s np hp => q1 p H' s hp⟩
      · rw [decide_eq_true (show (0 : Int) ≤ i by omega)]
        refine iteT ?_
        have e : 2 * i = ((zz i : Nat) : Int) := by unfold zz; rw [if_neg c]; omega
        exact ⟨_, rfl, _, _, rfl, rfl, .inl ⟨by decide, by decide⟩, zz i, congrArg (fun z => [V.int z]) e, zl, fun p H' s np hp => q1 p H' s hp⟩
end
end K01
namespace K01
open PySem L2  RZ Cnt
/-! ### the law's own readers of texts and values -/
def dueTV : RV → List V
  | .done v b => [.str "done", vV v, .int b]
  | .short => [.str "short"]
  | .wrong p => [.str "wrong", .int p]
abbrev s_law_text_due : Stmt := top 43
abbrev n_law_text_due : List Str := ["octets", "at", "told", "signs", "place"]
abbrev p_law_text_due : List Str := ["octets", "at"]
theorem sc_law_text_due : FnScope n_law_text_due p_law_text_due (defScope s_law_text_due) := ⟨rfl, rfl, rfl, by decide +kernel, rfl, by decide +kernel, by decide +kernel⟩
abbrev s_law_value_due : Stmt := top 44
abbrev n_law_value_due : List Str := ["octets", "at", "told", "number"]
abbrev p_law_value_due : List Str := ["octets", "at"]
theorem sc_law_value_due : FnScope n_law_value_due p_law_value_due (defScope s_law_value_due) := ⟨rfl, rfl, rfl, by decide +kernel, rfl, by decide +kernel, by decide +kernel⟩
def spTD (K : PySem.W.Frag) (fr : List Nat → Nat → RV) : Sp := fun vs H Q _ => ∃ (a : Addr) (l : List Nat) (z : Nat), vs = [.ref a, .int z] ∧ SqT K H a (bV l) ∧ Byt l ∧ l.length ≤ 100000 ∧ ∀ (p : Addr) (H' : Hp), Same H H' → H p = none → H' p = some (.tup (dueTV (fr l z))) → Q (.ref p) H'
theorem gn_of {i : Nat} {v : V} {σ : St} {H : Hp} {t : TS} {D : Ends} (h : t D (σ.set i (some v)) H) : gName i v σ H (fun σ' H'' => t D σ' H'') := h
theorem nx_of {u : TS} {D D' : Ends} {σ : St} {H : Hp} (h : u D σ H) : tNext { nx := u D, rt := D'.rt, bk := D'.bk, ct := D'.ct : Ends } σ H := h
theorem at0 {x : V} {xs : List V} : atI (x :: xs) 0 = some x := at_of (j := 0) rfl rfl
theorem at1 {x y : V} {xs : List V} : atI (x :: y :: xs) 1 = some y := at_of (j := 1) rfl rfl
theorem at2 {x y z : V} {xs : List V} : atI (x :: y :: z :: xs) 2 = some z := at_of (j := 2) rfl rfl
section
variable {P : Program} {w : World} {K : PySem.W.Frag} {mg : Str → Option Value} {base : Heap}
theorem ok_td {f fD fR : Addr} {fd fdD fdR : FuncData} (D : Dfn K mg "_law_text_due" s_law_text_due p_law_text_due f fd) (B : Bi mg) (DD : Dfn K mg "_law_count_due" s_law_count_due p_law_count_due fD fdD) (GD : FnOk P w K mg base CX0 1 fD fdD p_law_count_due (spDue K))
    (DR : Dfn K mg "_law_signs_row" s_law_signs_row p_law_signs_row fR fdR) : FnOk P w K mg base CX0 2 f fd p_law_text_due (spTD K tFrom) := by
  have nd := sc_law_text_due.nd
  have GR : FnOk P w K mg base CX0 1 fR fdR p_law_signs_row spRow := ok_row DR
  refine D.F.ok sc_law_text_due (fun vs H Q E h => ?_) (fun cdv A outer s H vs Q E hr h => ?_)
  · obtain ⟨a, l, z, rfl, _⟩ := h
    rfl
  · obtain ⟨a, l, z, rfl, hs, hb, hl, q⟩ := h
    refine ⟨_, pss_cons (ps_set (i := 2) nd rfl (.inl rfl) (pe_call GD hr (by rfl) DD.g DD.F.kp DD.b .nil pass0 (pa_cons (pv 0) (pa_cons (pv 1) pa_nil))))
      (pss_cons (ps_if (pt_cmpR op_ne (pe_ix ix_tup (pv 2) pe_int (fun _ _ => rfl)) pe_str (nomark _)) (pss_one (ps_ret (pv 2))) pss_nil)
      (pss_cons (ps_if (pt_cmpR op_gt (pe_ix ix_tup (pv 2) pe_int (fun _ _ => rfl)) pe_int (nomark _)) (pss_one (ps_ret (pe_tup (pa_cons pe_str (pa_cons (pv 1) pa_nil))))) pss_nil)
      (pss_cons (ps_set (i := 3) nd rfl (.inl rfl) (pe_lst pa_nil))
      (pss_cons (ps_for PassesOwn.never rfl (pi_range2 (by rfl) B.range (pa_cons (pe_ix ix_tup (pv 2) pe_int (fun _ _ => rfl)) (pa_cons (pe_op op_add (pe_ix ix_tup (pv 2) pe_int (fun _ _ => rfl)) (pe_ix ix_tup (pv 2) pe_int (fun _ _ => rfl))) pa_nil))) (pg_name (i := 4) nd rfl (.inl rfl))
        (pss_cons (ps_if (pt_cmpR op_ge (pv 4) (pe_callB call_len_seq (by rfl) B.len PySem.boot_len (pa_cons (pv 0) pa_nil)) (nomark _)) (pss_one (ps_ret (pe_tup (pa_cons pe_str pa_nil)))) pss_nil)
        (pss_cons (ps_if (pt_cmpR op_gt (pe_ix ix_tup (pv 0) (pv 4) (fun _ _ => rfl)) pe_int (nomark _)) (pss_one (ps_ret (pe_tup (pa_cons pe_str (pa_cons (pv 4) pa_nil))))) pss_nil)
        (pss_one (ps_expr (pe_bm PySem.F.plainAttrs_list PySem.F.slot_list_append PySem.F.type_list_append mt_append (pv 3) (pa_cons (pe_ix ix_str (pe_call0 GR hr (by rfl) DR.g DR.F.kp DR.b .nil pass0) (pe_ix ix_tup (pv 0) (pv 4) (fun _ _ => rfl)) (fun _ _ => rfl)) pa_nil)))))))
      (pss_one (ps_ret (pe_tup (pa_cons pe_str (pa_cons (pe_join pe_str (pv 3)) (pa_cons (pe_op op_add (pe_ix ix_tup (pv 2) pe_int (fun _ _ => rfl)) (pe_ix ix_tup (pv 2) pe_int (fun _ _ => rfl))) pa_nil)))))))))), ?_⟩
    refine ⟨_, rfl, _, rfl, a, l, z, rfl, hs, hb, fun t H1 s1 nt ht => ?_⟩
    have hs1 := Same.seqT s1 hs
    unfold tFrom at q
    cases e : cFrom l z with
    | short =>
      rw [e] at q ht
      refine ⟨_, rfl, t, _, _, _, rfl, rfl, .inl (.inl ht), at0, rfl, _, rfl, ?_⟩
      refine iteT ?_
      exact ⟨_, rfl, q t _ s1 nt ht⟩
    | wrong p =>
      rw [e] at q ht
      refine ⟨_, rfl, t, _, _, _, rfl, rfl, .inl (.inl ht), at0, rfl, _, rfl, ?_⟩
      refine iteT ?_
      exact ⟨_, rfl, q t _ s1 nt ht⟩
    | done m b =>
      rw [e] at q ht
      have ht : H1 t = some (.tup [.str "done", .int m, .int b]) := ht
      have q : ∀ (p : Addr) (H' : Hp), Same H H' → H p = none → H' p = some (.tup (dueTV (if 200 < m then .wrong z else match tRun l b m [] with | .done v _ => .done v (b + m) | r => r))) → Q (.ref p) H' := q
      refine ⟨_, rfl, t, _, _, _, rfl, rfl, .inl (.inl ht), at0, rfl, _, rfl, ?_⟩
      refine iteF ?_
      refine ⟨_, rfl, t, _, _, _, rfl, rfl, .inl (.inl ht), at1, _, _, rfl, rfl, _, rfl, ?_⟩
      by_cases c : 200 < m
      · rw [decide_eq_true (show (200 : Int) < (m : Int) by omega)]
        refine iteT ?_
        rw [if_pos c] at q
        exact ⟨_, rfl, (by show 2 ≤ sizeLine; decide), fun p np => q p _ (s1.trans (Same.new np)) (s1.free np) upd_same⟩
      · rw [decide_eq_false (show ¬ (200 : Int) < (m : Int) by omega)]
        refine iteF ?_
        rw [if_neg c] at q
        have hbl : b ≤ l.length := cRun_le l z 9 0 0 m b e
        refine ⟨Nat.zero_le _, fun o no => ?_⟩
        have so : Same H1 (upd H1 o (.lst [])) := Same.new no
        have ht2 := so _ _ ht
        refine ⟨_, rfl, t, _, _, _, rfl, rfl, .inl (.inl ht2), at2, _, rfl, t, _, _, _, rfl, rfl, .inl (.inl ht2), at2, _, rfl, t, _, _, _, rfl, rfl, .inl (.inl ht2), at1, _, _, rfl, rfl, _, _, rfl, ⟨by omega, by omega, by omega, by omega⟩, ?_⟩
        rw [show ((b : Int) + (m : Int) - (b : Int)).toNat = m by omega]
        refine for_range (n := m) (fun i σ H2 => ∃ (acc : List Nat) (v5 : Option V), acc.length = i ∧ Sgs acc ∧ σ = [some (.ref a), some (.int z), some (.ref t), some (.ref o), v5] ∧ i ≤ m ∧ tRun l (b + i) (m - i) acc = tRun l b m [] ∧ Same H1 H2 ∧ H2 o = some (.lst ((sgl acc).map V.str))) ⟨[], none, rfl, (fun k h => by cases h), rfl, Nat.zero_le _, rfl, Same.new no, upd_same⟩ ?_ ?_
        · rintro i σ H2 hi ⟨acc, v5, hal, hac, rfl, him, hr2, s2, ho⟩
          have hs2 := Same.seqT s2 hs1
          rw [show m - i = (m - (i + 1)) + 1 by omega, tRun] at hr2
          refine ⟨_, rfl, _, rfl, a, _, rfl, .inr hs2, _, _, rfl, rfl, _, rfl, ?_⟩
          rw [bV_len]
          by_cases c0 : l.length ≤ b + i
          · rw [decide_eq_true (show (l.length : Int) ≤ (b : Int) + (i : Int) by omega)]
            refine iteT ?_
            rw [if_pos c0] at hr2
            rw [← hr2] at q
            exact ⟨(by show 1 ≤ sizeLine; decide), fun p np => q p _ ((s1.trans s2).trans (Same.new np)) ((s1.trans s2).free np) upd_same⟩
          · rw [decide_eq_false (show ¬ (l.length : Int) ≤ (b : Int) + (i : Int) by omega)]
            refine iteF ?_
            rw [if_neg c0] at hr2
            have hget := get_some (l := l) (i := b + i) (by omega)
            generalize l.getD (b + i) 0 = k at hr2 hget
            have slen : sgs.length ≤ sizeLine := by rw [sgs_77]; decide
            refine ⟨_, rfl, _, rfl, a, _, _, _, rfl, rfl, hs2, at_of (j := b + i) (by omega) (bV_at hget), _, _, rfl, rfl, _, rfl, ?_⟩
            by_cases c1 : 77 ≤ k
            · rw [decide_eq_true (show (76 : Int) < (k : Int) by omega)]
              refine iteT ?_
              rw [if_pos c1] at hr2
              rw [← hr2] at q
              refine ⟨_, rfl, (by show 2 ≤ sizeLine; decide), fun p np => q p _ ((s1.trans s2).trans (Same.new np)) ((s1.trans s2).free np) ?_⟩
              rw [upd_same]
              rfl
            · rw [decide_eq_false (show ¬ (76 : Int) < (k : Int) by omega)]
              refine iteF ?_
              rw [if_neg c1] at hr2
              refine ⟨_, rfl, .inl ⟨rfl, _, SqL.of ho⟩, rfl, _, rfl, _, rfl, a, _, _, _, rfl, rfl, hs2, at_of (j := b + i) (by omega) (bV_at hget), sgs, (k : Int), sg k, rfl, rfl, slen, sg_at (by omega), o, _, _, rfl, rfl, ho, ?_, ?_⟩
              · rw [List.length_map]
                unfold sgl
                rw [List.length_map, hal]
                exact Nat.lt_of_lt_of_le (show i < 200 by omega) (by decide)
              · refine ⟨acc ++ [k], some (.int ((b : Int) + (i : Int))), by rw [List.length_append, hal]; rfl, fun y hy => ?_, rfl, by omega, hr2, fun x u hx => ?_, ?_⟩
                · rcases List.mem_append.mp hy with hy | hy
                  · exact hac y hy
                  · rw [List.mem_singleton.mp hy]
                    omega
                · rw [upd_ne (ne_of_none hx no)]
                  exact s2 x u hx
                · rw [upd_same]
                  unfold sgl
                  rw [List.map_append, List.map_append]
                  rfl
        · rintro σ H2 ⟨acc, v5, hal, hac, rfl, him, hr2, s2, ho⟩
          rw [Nat.sub_self, tRun] at hr2
          rw [← hr2] at q
          have q : ∀ (p : Addr) (H' : Hp), Same H H' → H p = none → H' p = some (.tup [.str "done", .str (tx acc), .int (b + m : Nat)]) → Q (.ref p) H' := q
          have ht3 := s2 _ _ ht
          refine ⟨⟨_, rfl⟩, _, rfl, Str.ofString "", o, sgl acc, rfl, rfl, .inl (SqL.of ho), ?_, _, rfl, t, _, _, _, rfl, rfl, .inl (.inl ht3), at2, _, rfl, t, _, _, _, rfl, rfl, .inl (.inl ht3), at1, _, _, rfl, rfl, (by show 3 ≤ sizeLine; decide), fun p2 np2 => ?_⟩
          · rw [sgl_sum]
            have : (Str.ofString "").length = 0 := by rfl
            rw [this]
            omega
          · refine q p2 _ ((s1.trans s2).trans (Same.new np2)) ((s1.trans s2).free np2) ?_
            rw [upd_same, join_sgl]
            rfl
end
section
variable {P : Program} {w : World} {K : PySem.W.Frag} {mg : Str → Option Value} {base : Heap}
theorem ok_vd {f fD fT : Addr} {fd fdD fdT : FuncData} (D : Dfn K mg "_law_value_due" s_law_value_due p_law_value_due f fd) (B : Bi mg) (mab : mg "abs" = none) (DD : Dfn K mg "_law_count_due" s_law_count_due p_law_count_due fD fdD) (GD : FnOk P w K mg base CX0 1 fD fdD p_law_count_due (spDue K))
    (DT : Dfn K mg "_law_text_due" s_law_text_due p_law_text_due fT fdT) (GT : FnOk P w K mg base CX0 2 fT fdT p_law_text_due (spTD K tFrom)) : FnOk P w K mg base CX0 3 f fd p_law_value_due (spTD K vFrom) := by
  have nd := sc_law_value_due.nd
  refine D.F.ok sc_law_value_due (fun vs H Q E h => ?_) (fun cdv A outer s H vs Q E hr h => ?_)
  · obtain ⟨a, l, z, rfl, _⟩ := h
    rfl
  · obtain ⟨a, l, z, rfl, hs, hb, hl, q⟩ := h
    have hr1 : Room 1 _ := hr.mono (by decide)
    refine ⟨_, pss_cons (ps_if (pt_cmpR op_ge (pv 1) (pe_callB call_len_seq (by rfl) B.len PySem.boot_len (pa_cons (pv 0) pa_nil)) (nomark _)) (pss_one (ps_ret (pe_tup (pa_cons pe_str pa_nil)))) pss_nil)
      (pss_cons (ps_if (pt_cmpR op_eq (pe_ix ix_tup (pv 0) (pv 1) (fun _ _ => rfl)) pe_int (nomark _)) (pss_one (ps_ret (pe_tup (pa_cons pe_str (pa_cons pe_non (pa_cons (pe_op op_add (pv 1) pe_int) pa_nil)))))) pss_nil)
      (pss_cons (ps_if (pt_cmpR op_eq (pe_ix ix_tup (pv 0) (pv 1) (fun _ _ => rfl)) pe_int (nomark _)) (pss_one (ps_ret (pe_call GT hr (by rfl) DT.g DT.F.kp DT.b .nil pass0 (pa_cons (pv 0) (pa_cons (pe_op op_add (pv 1) pe_int) pa_nil))))) pss_nil)
      (pss_cons (ps_if (pt_cmpR op_gt (pe_ix ix_tup (pv 0) (pv 1) (fun _ _ => rfl)) pe_int (nomark _)) (pss_one (ps_ret (pe_tup (pa_cons pe_str (pa_cons (pv 1) pa_nil))))) pss_nil)
      (pss_cons (ps_set (i := 2) nd rfl (.inl rfl) (pe_call GD hr1 (by rfl) DD.g DD.F.kp DD.b .nil pass0 (pa_cons (pv 0) (pa_cons (pe_op op_add (pv 1) pe_int) pa_nil))))
      (pss_cons (ps_if (pt_cmpR op_ne (pe_ix ix_tup (pv 2) pe_int (fun _ _ => rfl)) pe_str (nomark _)) (pss_one (ps_ret (pv 2))) pss_nil)
      (pss_cons (ps_set (i := 3) nd rfl (.inl rfl) (pe_ifExp (pt_cmpR op_eq (pe_op op_modN (pe_callTy call_int1 (by rfl) B.int (by decide +kernel) (pa_cons (pe_ix ix_tup (pv 2) pe_int (fun _ _ => rfl)) pa_nil)) pe_int) pe_int (nomark _))
          (pe_op op_fdivN (pe_ix ix_tup (pv 2) pe_int (fun _ _ => rfl)) pe_int) (pe_op op_sub (pe_op op_sub pe_int (pe_op op_fdivN (pe_ix ix_tup (pv 2) pe_int (fun _ _ => rfl)) pe_int)) pe_int)))
      (pss_one (ps_ret (pe_ifExp (pt_cmpR op_le (pe_callB call_abs (by rfl) mab (by decide +kernel) (pa_cons (pv 3) pa_nil)) (pe_op op_shl pe_int pe_int) (nomark _))
          (pe_tup (pa_cons pe_str (pa_cons (pv 3) (pa_cons (pe_ix ix_tup (pv 2) pe_int (fun _ _ => rfl)) pa_nil)))) (pe_tup (pa_cons pe_str (pa_cons (pe_op op_add (pv 1) pe_int) pa_nil)))))))))))), ?_⟩
    refine ⟨_, rfl, _, rfl, a, _, rfl, .inr hs, _, _, rfl, rfl, _, rfl, ?_⟩
    rw [bV_len]
    unfold vFrom at q
    by_cases c0 : l.length ≤ z
    · rw [decide_eq_true (show (l.length : Int) ≤ (z : Int) by omega)]
      refine iteT ?_
      rw [if_pos c0] at q
      exact ⟨(by show 1 ≤ sizeLine; decide), fun p np => q p _ (Same.new np) np upd_same⟩
    rw [decide_eq_false (show ¬ (l.length : Int) ≤ (z : Int) by omega)]
    refine iteF ?_
    rw [if_neg c0] at q
    have hget := get_some (l := l) (i := z) (by omega)
    have hk := hb _ (List.mem_of_getElem? hget)
    generalize l.getD z 0 = k at q hget hk
    have hat : atI (bV l) (z : Int) = some (.int (k : Int)) := at_of (j := z) rfl (bV_at hget)
    refine ⟨_, rfl, _, rfl, a, _, _, _, rfl, rfl, hs, hat, rfl, _, int_eqN k 0, ?_⟩
    by_cases c1 : k = 0
    · rw [decide_eq_true c1]
      refine iteT ?_
      rw [if_neg (by omega), if_pos c1] at q
      exact ⟨_, rfl, _, _, rfl, rfl, (by show 3 ≤ sizeLine; decide), fun p np => q p _ (Same.new np) np upd_same⟩
    rw [decide_eq_false c1]
    refine iteF ?_
    refine ⟨_, rfl, _, rfl, a, _, _, _, rfl, rfl, hs, hat, rfl, _, int_eqN k 2, ?_⟩
    by_cases c2 : k = 2
    · rw [decide_eq_true c2]
      refine iteT ?_
      rw [if_neg (by omega), if_neg c1, if_neg (by omega)] at q
      exact ⟨_, rfl, _, rfl, _, _, rfl, rfl, a, l, z + 1, rfl, hs, hb, hl, q⟩
    rw [decide_eq_false c2]
    refine iteF ?_
    refine ⟨_, rfl, _, rfl, a, _, _, _, rfl, rfl, hs, hat, _, _, rfl, rfl, _, rfl, ?_⟩
    by_cases c3 : 2 < k
    · rw [decide_eq_true (show (2 : Int) < (k : Int) by omega)]
      refine iteT ?_
      rw [if_pos c3] at q
      exact ⟨_, rfl, (by show 2 ≤ sizeLine; decide), fun p np => q p _ (Same.new np) np upd_same⟩
    rw [decide_eq_false (show ¬ (2 : Int) < (k : Int) by omega)]
    refine iteF ?_
    rw [if_neg c3, if_neg c1, if_pos (by omega)] at q
    unfold iFrom at q
    refine ⟨_, rfl, _, rfl, _, _, rfl, rfl, a, l, z + 1, rfl, hs, hb, fun t H1 s1 nt ht => ?_⟩
    cases e : cFrom l (z + 1) with
    | short =>
      rw [e] at q ht
      refine ⟨_, rfl, t, _, _, _, rfl, rfl, .inl (.inl ht), at0, rfl, _, rfl, ?_⟩
      refine iteT ?_
      exact ⟨_, rfl, q t _ s1 nt ht⟩
    | wrong p =>
      rw [e] at q ht
      refine ⟨_, rfl, t, _, _, _, rfl, rfl, .inl (.inl ht), at0, rfl, _, rfl, ?_⟩
      refine iteT ?_
      exact ⟨_, rfl, q t _ s1 nt ht⟩
    | done m b =>
      rw [e] at q ht
      have ht : H1 t = some (.tup [.str "done", .int m, .int b]) := ht
      have hT : SqT K H1 t [.str "done", .int m, .int b] := .inl (.inl ht)
      have q : ∀ (p : Addr) (H' : Hp), Same H H' → H p = none → H' p = some (.tup (dueTV (if 2199023255552 < m then .wrong (z + 1) else .done (.int (unz m)) b))) → Q (.ref p) H' := q
      refine ⟨_, rfl, t, _, _, _, rfl, rfl, hT, at0, rfl, _, rfl, ?_⟩
      refine iteF ?_
      have em : (m : Int).fmod 2 = ((m % 2 : Nat) : Int) := by rw [Int.fmod_eq_emod_of_nonneg _ (by decide)]; omega
      have ed : (m : Int).fdiv 2 = ((m / 2 : Nat) : Int) := by rw [Int.fdiv_eq_ediv_of_nonneg _ (by decide)]; omega
      refine nx_of ?_
      refine seq_asg (fun v H' => v = .int (unz m) ∧ H' = H1) (fun Q' k => ?_) ?_
      · refine ⟨_, rfl, t, _, _, _, rfl, rfl, hT, at1, .inl ⟨_, rfl, _, _, rfl, rfl, (by show (2 : Int) ≠ 0; decide), rfl, _, (congrArg (fun i => V.bl (decide (V.int i = V.int 0))) em).trans (int_eqN (m % 2) 0), ?_⟩⟩
        by_cases c : m % 2 = 0
        · rw [decide_eq_true c]
          refine iteT ?_
          refine ⟨_, rfl, t, _, _, _, rfl, rfl, hT, at1, _, _, rfl, rfl, ⟨by decide, by decide⟩, k _ _ ⟨congrArg V.int ?_, rfl⟩⟩
          unfold unz
          rw [if_neg (by omega), ed]
        · rw [decide_eq_false c]
          refine iteF ?_
          refine ⟨_, rfl, t, _, _, _, rfl, rfl, hT, at1, _, _, rfl, rfl, ⟨by decide, by decide⟩, _, _, rfl, rfl, _, _, rfl, rfl, k _ _ ⟨congrArg V.int ?_, rfl⟩⟩
          unfold unz
          rw [if_pos (by omega), ed]
          omega
      rintro v H2 ⟨rfl, rfl⟩
      refine ⟨_, rfl, _, rfl, _, _, rfl, rfl, ⟨by decide, by decide, by decide⟩, _, _, rfl, rfl, _, rfl, ?_⟩
      by_cases c : 2199023255552 < m
      · rw [decide_eq_false (show ¬ ((if unz m < 0 then -unz m else unz m) ≤ (1 : Int) * 2 ^ (40 : Int).toNat) by
          rw [show (1 : Int) * 2 ^ (40 : Int).toNat = 1099511627776 from rfl]
          unfold unz
          split <;> split <;> omega)]
        refine iteF ?_
        rw [if_pos c] at q
        exact ⟨_, rfl, _, _, rfl, rfl, (by show 2 ≤ sizeLine; decide), fun p np => q p _ (s1.trans (Same.new np)) (s1.free np) upd_same⟩
      · rw [decide_eq_true (show ((if unz m < 0 then -unz m else unz m) ≤ (1 : Int) * 2 ^ (40 : Int).toNat) by
          rw [show (1 : Int) * 2 ^ (40 : Int).toNat = 1099511627776 from rfl]
          unfold unz
          split <;> split <;> omega)]
        refine iteT ?_
        rw [if_neg c] at q
        exact ⟨_, rfl, _, rfl, t, _, _, _, rfl, rfl, hT, at2, (by show 3 ≤ sizeLine; decide), fun p np => q p _ (s1.trans (Same.new np)) (s1.free np) upd_same⟩
end
end K01
namespace K01
open PySem L2  RZ Cnt
/-! ### there and back -/
theorem tRun_back (s : List Nat) : ∀ (l p acc : List Nat), Sgs l → tRun (p ++ l ++ s) p.length l.length acc = .done (.txt (acc ++ l)) 0
  | [], p, acc, _ => by
    rw [List.length_nil, tRun, List.append_nil]
  | a :: l, p, acc, h => by
    have hlen : ¬ (p ++ (a :: l) ++ s).length ≤ p.length := by
      rw [List.length_append, List.length_append, List.length_cons]
      omega
    have hget : (p ++ (a :: l) ++ s).getD p.length 0 = a := by
      rw [List.getD_eq_getElem?_getD, List.append_assoc, List.getElem?_append_right (Nat.le_refl _), Nat.sub_self]
      rfl
    show tRun (p ++ (a :: l) ++ s) p.length (l.length + 1) acc = _
    rw [tRun, if_neg hlen, hget, if_neg (by have := h a List.mem_cons_self; omega)]
    have e : p ++ (a :: l) ++ s = (p ++ [a]) ++ l ++ s := by simp
    have ih := tRun_back s l (p ++ [a]) (acc ++ [a]) fun k hk => h k (List.mem_cons_of_mem _ hk)
    rw [e, show p.length + 1 = (p ++ [a]).length by simp, ih]
    simp
theorem tFrom_back {l : List Nat} (p s : List Nat) (h : Sgs l) (hl : l.length ≤ 200) : tFrom (p ++ (cOct l.length ++ l) ++ s) p.length = .done (.txt l) (p.length + (cOct l.length ++ l).length) := by
  have e1 : p ++ (cOct l.length ++ l) ++ s = p ++ cOct l.length ++ (l ++ s) := by simp
  have e2 : cFrom (p ++ (cOct l.length ++ l) ++ s) p.length = .done l.length (p.length + (cOct l.length).length) := by
    rw [e1]
    exact from_back p (l ++ s) (by omega)
  unfold tFrom
  rw [e2]
  show (if 200 < l.length then RV.wrong p.length else _) = _
  rw [if_neg (by omega)]
  have e3 : p ++ (cOct l.length ++ l) ++ s = (p ++ cOct l.length) ++ l ++ s := by simp
  have e4 := tRun_back s l (p ++ cOct l.length) [] h
  rw [List.length_append] at e4
  rw [e3, e4]
  show RV.done (.txt ([] ++ l)) (p.length + (cOct l.length).length + l.length) = _
  rw [List.nil_append, List.length_append, Nat.add_assoc]
theorem unz_zz (i : Int) : unz (zz i) = i := by
  unfold unz zz
  split <;> split <;> omega
theorem vFrom_back {v : Val} (p s : List Nat) (h : VOk v) : vFrom (p ++ vOct v ++ s) p.length = .done v (p.length + (vOct v).length) := by
  have hg : ∀ (a : Nat) (r : List Nat), vOct v = a :: r → ¬ (p ++ vOct v ++ s).length ≤ p.length ∧ (p ++ vOct v ++ s).getD p.length 0 = a := fun a r e => by
    rw [e]
    refine ⟨by rw [List.length_append, List.length_append, List.length_cons]; omega, ?_⟩
    rw [List.getD_eq_getElem?_getD, List.append_assoc, List.getElem?_append_right (Nat.le_refl _), Nat.sub_self]
    rfl
  unfold vFrom
  cases v with
  | non =>
    obtain ⟨h1, h2⟩ := hg 0 [] rfl
    rw [if_neg h1, h2, if_neg (by decide), if_pos rfl]
    rfl
  | int i =>
    obtain ⟨h1, h2⟩ := hg 1 _ rfl
    rw [if_neg h1, h2, if_neg (by decide), if_neg (by decide), if_pos rfl]
    have hi : -1099511627776 ≤ i ∧ i ≤ 1099511627776 := h
    have hz : zz i ≤ 2199023255552 := by unfold zz; split <;> omega
    have e1 : p ++ vOct (.int i) ++ s = (p ++ [1]) ++ cOct (zz i) ++ s := by
      show p ++ (1 :: cOct (zz i)) ++ s = _
      simp
    have e2 := from_back (n := zz i) (p ++ [1]) s (by omega)
    rw [List.length_append, List.length_singleton] at e2
    unfold iFrom
    rw [e1, e2]
    show (if 2199023255552 < zz i then RV.wrong (p.length + 1) else RV.done (.int (unz (zz i))) (p.length + 1 + (cOct (zz i)).length)) = _
    rw [if_neg (by omega), unz_zz]
    show _ = RV.done (.int i) (p.length + ((cOct (zz i)).length + 1))
    congr 1
    omega
  | txt l =>
    obtain ⟨h1, h2⟩ := hg 2 _ rfl
    rw [if_neg h1, h2, if_neg (by decide), if_neg (by decide), if_neg (by decide)]
    have e1 : p ++ vOct (.txt l) ++ s = (p ++ [2]) ++ (cOct l.length ++ l) ++ s := by
      show p ++ (2 :: (cOct l.length ++ l)) ++ s = _
      simp
    have e2 := tFrom_back (p ++ [2]) s h.1 h.2
    rw [List.length_append, List.length_singleton] at e2
    rw [e1, e2]
    show RV.done (.txt l) (p.length + 1 + (cOct l.length ++ l).length) = RV.done (.txt l) (p.length + ((cOct l.length ++ l).length + 1))
    congr 1
    omega
/-- what is told is a value whose text, if it is one, is of signs -/
def RVOk : RV → Prop
  | .done (.txt t) _ => Sgs t
  | _ => True
theorem tRun_txt (l : List Nat) : ∀ (m p : Nat) (acc : List Nat) (v : Val) (b : Nat), tRun l p m acc = .done v b → ∃ t, v = .txt t
  | 0, p, acc, v, b, h => by
    rw [tRun] at h
    injection h with h1 h2
    exact ⟨acc, h1.symm⟩
  | m + 1, p, acc, v, b, h => by
    rw [tRun] at h
    split at h
    · cases h
    split at h
    · cases h
    · exact tRun_txt l m (p + 1) _ v b h
theorem tFrom_ok (l : List Nat) (z : Nat) : RVOk (tFrom l z) := by
  unfold tFrom
  cases cFrom l z with
  | short => trivial
  | wrong p => trivial
  | done m b =>
    show RVOk (if 200 < m then .wrong z else match tRun l b m [] with | .done v _ => .done v (b + m) | r => r)
    by_cases c : 200 < m
    · rw [if_pos c]
      trivial
    · rw [if_neg c]
      cases e : tRun l b m [] with
      | done v b' =>
        obtain ⟨t, rfl⟩ := tRun_txt l m b [] v b' e
        exact tRun_more l m b [] t b' e (fun k hk => by cases hk)
      | short => trivial
      | wrong p => trivial
theorem iFrom_ok (l : List Nat) (z : Nat) : RVOk (iFrom l z) := by
  unfold iFrom
  cases cFrom l z with
  | short => trivial
  | wrong p => trivial
  | done m b =>
    show RVOk (if 2199023255552 < m then .wrong z else .done (.int (unz m)) b)
    split <;> trivial
theorem vFrom_ok (l : List Nat) (z : Nat) : RVOk (vFrom l z) := by
  unfold vFrom
  split
  · trivial
  split
  · trivial
  split
  · trivial
  split
  · exact iFrom_ok _ _
  · exact tFrom_ok _ _
theorem sg_small : ∀ k, k < 77 → sg k < 1114112 := by decide +kernel
theorem lay_tx {l : List Nat} (h : Sgs l) : PyData.canLay0 (.str (tx l)) = true := by
  show (tx l).cps.all (· < 0x110000) = true
  unfold tx
  rw [← Array.all_toList]
  simp only [List.all_eq_true, List.mem_map, decide_eq_true_eq]
  rintro c ⟨k, hk, rfl⟩
  exact sg_small k (h k hk)
theorem vD_pl {v : Val} (n : Nat) (h : RVOk (.done v 0)) : Pl n (vD v) := by
  cases v with
  | non => cases n <;> exact True.intro
  | int i => cases n <;> exact True.intro
  | txt l => cases n <;> exact lay_tx h
def dRV : RV → PyData
  | .done v b => .tuple [.str "done", vD v, .int b]
  | .short => .tuple [.str "short"]
  | .wrong p => .tuple [.str "wrong", .int p]
theorem dRV_dp {K : PySem.W.Frag} {H : Hp} {p : Addr} : ∀ {r : RV}, H p = some (.tup (dueTV r)) → Dp K H (.ref p) (dRV r)
  | .done v _, h => .tup (.inl (.inl h)) (.cons (.str _) (.cons (vD_dp v) (.cons (.int _) .nil)))
  | .short, h => .tup (.inl (.inl h)) (.cons (.str _) .nil)
  | .wrong _, h => .tup (.inl (.inl h)) (.cons (.str _) (.cons (.int _) .nil))
theorem lay_str (x : Str) (h : PyData.canLay0 (.str x) = true) (n : Nat) : Pl n (.str x) := by cases n <;> exact h
theorem dRV_pl (n : Nat) : ∀ {r : RV}, RVOk r → Pl (n + 1) (dRV r)
  | .done v _, h => ⟨by show 3 ≤ 100000; decide, fun x hx => by
      rcases List.mem_cons.mp hx with rfl | hx
      · exact lay_str _ (by decide +kernel) n
      rcases List.mem_cons.mp hx with rfl | hx
      · exact vD_pl n (by cases v <;> exact h)
      rcases List.mem_cons.mp hx with rfl | hx
      · cases n <;> exact True.intro
      · cases hx⟩
  | .short, _ => ⟨by show 1 ≤ 100000; decide, fun x hx => by
      rcases List.mem_cons.mp hx with rfl | hx
      · exact lay_str _ (by decide +kernel) n
      · cases hx⟩
  | .wrong _, _ => ⟨by show 2 ≤ 100000; decide, fun x hx => by
      rcases List.mem_cons.mp hx with rfl | hx
      · exact lay_str _ (by decide +kernel) n
      rcases List.mem_cons.mp hx with rfl | hx
      · cases n <;> exact True.intro
      · cases hx⟩
/-- t[1:] -/
theorem gd_tail {K : PySem.W.Frag} {σ : St} {H : Hp} {i x : Nat} {p : Addr} {l : List Nat} (e : σ[i]? = some (some (.ref p))) (hp : H p = some (.tup (bV (x :: l)))) : Gd σ H (tSl (rSlA K) (tVar i) (tPart (tC (.int 1))) tNoPart) l := fun H1 s Q q => by
  have hc : HT.sIx (bV (x :: l)).length 0 (some (1 : Int)) = 1 := by
    show (if (1 : Int) < 0 then ((1 : Int) + ((bV (x :: l)).length : Int)).toNat else min (1 : Int).toNat (bV (x :: l)).length) = _
    rw [if_neg (by decide), bV_len, List.length_cons]
    show min 1 (l.length + 1) = 1
    omega
  have hcut : cutV (bV (x :: l)) (some 1) none = bV l := by
    unfold cutV
    rw [HT.sIx_none, hc]
    show ((bV (x :: l)).drop 1).take _ = _
    rw [List.take_of_length_le (by rw [List.length_drop]; exact Nat.le_refl _)]
    rfl
  refine ⟨_, e, _, rfl, p, _, rfl, .inl (.inl (s _ _ hp)), fun h => ?_, fun _ p2 np2 => ?_⟩
  · have h1 : HT.sIx (bV (x :: l)).length 0 (some (1 : Int)) = 0 := h.1
    rw [hc] at h1
    cases h1
  · refine q p2 _ (Same.new np2) ?_
    rw [upd_same]
    exact congrArg (fun z => some (HO.tup z)) hcut
end K01
namespace K01
open PySem L2  RZ Cnt
/-! ### the law -/
/-- what the top has written of errors -/
structure ErT (P : Program) (K : PySem.W.Frag) (mg : Str → Option Value) (CE CW CS fI : Addr) : Prop where
  w : PySem.WrX.WrTxt P K mg "Wrong" CW fI
  s : ShTxt K mg "Short" CS
  g : mg "StoreError" = some (.ref CE)
  eW : PySem.W.exmOne K (.ref CW) (.ref CE) = some true
  eS : PySem.W.exmOne K (.ref CS) (.ref CE) = some true
  cW : ExcC K CW
  cS : ExcC K CS
  kSW : PySem.W.kitOne K (.ref CS) (.ref CW) = some false
theorem kit_self {K : PySem.W.Frag} {C : Addr} : PySem.W.kitOne K (.ref C) (.ref C) = some true := by
  unfold PySem.W.kitOne
  rw [if_pos (by simp)]
abbrev slaw : Stmt := top 45
abbrev nlaw : List Str := ["script", "row", "text", "value", "ahead", "one", "two", "some", "rows", "octets", "reader", "due", "told", "error"]
abbrev plaw : List Str := ["script"]
theorem sclaw : FnScope nlaw plaw (defScope slaw) := ⟨rfl, rfl, rfl, by decide +kernel, rfl, by decide +kernel, by decide +kernel⟩
def spLaw (K : PySem.W.Frag) : Sp := fun vs H Q _ => ∃ (a : Addr) (ns : List Int), vs = [.ref a] ∧ SqL K H a (ns.map V.int) ∧ ns.length ≤ 63 ∧ ∀ H', Q (.bl true) H'
/-- the two readers, the two own ones -/
def SR (K : PySem.W.Frag) (CW CS fT fV : Addr) (f : Addr) (sp : Sp) : Prop := (f = fT ∧ sp = spIF K CW CS tFrom) ∨ (f = fV ∧ sp = spIF K CW CS vFrom)
def SD (K : PySem.W.Frag) (fT fV : Addr) (f : Addr) (sp : Sp) : Prop := (f = fT ∧ sp = spTD K tFrom) ∨ (f = fV ∧ sp = spTD K vFrom)
def t_suite (K : PySem.W.Frag) (CW CS : Addr) : Addr → Value → Option Addr → TS := fun a cls d => tAsg (tIf (tB (tCB (rIsX K a cls d) (tCons (tVar 13) (tCons (tC (.ref CW)) tNil)))) (tTup (tCons (tC (.str "wrong")) (tCons (tByWr CW a cls d (tVar 13)) tNil)))
  (tIf (tB (tCB (rIsX K a cls d) (tCons (tVar 13) (tCons (tC (.ref CS)) tNil)))) (tTup (tCons (tC (.str "short")) tNil)) (tC (.str "other")))) (gName 12)
def t_body (K : PySem.W.Frag) (CW CS fT fV : Addr) : WX → TS := fun W => tAsg (tOp (rCatT K) (tTup (tCons (tC (.str "done")) tNil)) (tCallAS 10 (SR K CW CS fT fV) (WE W) (tCons (tVar 9) (tCons (tC (.int 0)) tNil)))) (gName 12)
theorem Tus.dp {K : PySem.W.Frag} {H : Hp} : ∀ {ps : List Addr} {ls : List (List Nat)}, Tus H ps ls → DpAll K H (ps.map V.ref) (ls.map fun l => PyData.tuple (dI l))
  | [], [], _ => .nil
  | _ :: _, _ :: _, h => .cons (.tup (.inl (.inl h.1)) (dI_all K _ _)) (Tus.dp h.2)
theorem tus_pl {ls : List (List Nat)} (h : ∀ l, l ∈ ls → l.length ≤ 100000) (hl : ls.length ≤ 100000) (n : Nat) : Pl (n + 2) (.list (ls.map fun l => PyData.tuple (dI l))) := by
  refine ⟨by rw [List.length_map]; exact hl, fun x hx => ?_⟩
  obtain ⟨l, hlm, rfl⟩ := List.mem_map.mp hx
  refine ⟨by unfold dI; rw [List.length_map]; exact h l hlm, fun y hy => ?_⟩
  obtain ⟨m, _, rfl⟩ := List.mem_map.mp hy
  cases n <;> exact True.intro
theorem gd_three {σ : St} {H : Hp} {a b c : Nat} : Gd σ H (tTup (tCons (tC (.int (a : Int))) (tCons (tC (.int (b : Int))) (tCons (tC (.int (c : Int))) tNil)))) [a, b, c] := fun H1 s Q q => ⟨(by show 3 ≤ sizeLine; decide), fun p hp => q p _ (Same.new hp) upd_same⟩
theorem vOct_bt {v : Val} (h : VOk v) : Byt (vOct v) := by
  cases v with
  | non =>
    intro o ho
    rw [List.mem_singleton.mp ho]
    decide
  | int i =>
    intro o ho
    rcases List.mem_cons.mp ho with rfl | ho
    · decide
    · exact cOct_bt (zz i + 1) (zz i) (Nat.lt_succ_self _) o ho
  | txt l =>
    intro o ho
    rcases List.mem_cons.mp ho with rfl | ho
    · decide
    rcases List.mem_append.mp ho with ho | ho
    · exact cOct_bt (l.length + 1) l.length (Nat.lt_succ_self _) o ho
    · have := h.1 o ho
      omega
theorem vOct_len {v : Val} (h : VOk v) : 1 ≤ (vOct v).length ∧ (vOct v).length ≤ 220 := by
  cases v with
  | non => exact ⟨Nat.le_refl _, by decide⟩
  | int i =>
    have hi : -1099511627776 ≤ i ∧ i ≤ 1099511627776 := h
    have := cOct_len 8 (zz i) (by rw [show (128 : Nat) = 2 ^ 7 from rfl, ← Nat.pow_mul]; unfold zz; split <;> omega)
    show 1 ≤ (cOct (zz i)).length + 1 ∧ (cOct (zz i)).length + 1 ≤ 220
    omega
  | txt l =>
    have := cOct_len 8 l.length (by have := h.2; omega)
    have := h.2
    show 1 ≤ (cOct l.length ++ l).length + 1 ∧ (cOct l.length ++ l).length + 1 ≤ 220
    rw [List.length_append]
    omega
theorem last_of {l : List Nat} (h : 1 ≤ l.length) : ∃ m x, l = m ++ [x] := by
  have : l ≠ [] := by intro e; rw [e] at h; cases h
  exact ⟨l.dropLast, l.getLast this, (List.dropLast_concat_getLast this).symm⟩
section
variable {P : Program} {w : World} {K : PySem.W.Frag} {mg : Str → Option Value} {base : Heap} {CE CW CS fI fRt fRv fTd fVd : Addr}
/-- the try, by what it leaves in told -/
theorem try_ok (ER : ErT P K mg CE CW CS fI) {D : Ends} {H : Hp} {σ0 : List (Option V)} {v12 : Option V} {a rd du : Addr} {l : List Nat} {fr : List Nat → Nat → RV} (h0 : σ0.length = 9) (hrd : SR K CW CS fRt fRv rd (spIF K CW CS fr)) (ha : SqT K H a (bV l)) (hb : Byt l) (hl : l.length ≤ 100000)
    (k : ∀ (t : Addr) (H' : Hp), Same H H' → H' t = some (.tup (dueTV (fr l 0))) → D.nx (σ0 ++ [some (.ref a), some (.ref rd), some (.ref du), some (.ref t), none]) H') :
    t_body K CW CS fRt fRv (wAs K (.ref CE) 13 (t_suite K CW CS) (fun _ _ _ _ => False) D) D (σ0 ++ [some (.ref a), some (.ref rd), some (.ref du), v12, none]) H := by
  match σ0, h0 with
  | [s0, s1, s2, s3, s4, s5, s6, s7, s8], _ =>
    refine ⟨(by show 1 ≤ sizeLine; decide), fun t nt => ?_⟩
    have st : Same H (upd H t (.tup [.str "done"])) := Same.new nt
    refine ⟨rd, spIF K CW CS fr, rfl, hrd, _, rfl, a, l, 0, rfl, Same.seqT st ha, hb, Nat.zero_le _, hl, ?_⟩
    cases e : fr l 0 with
    | done v b =>
      rw [e] at k
      refine fun p H2 s2 np hp => ?_
      refine ⟨t, p, [.str "done"], [vV v, .int b], rfl, rfl, .inl (.inl (s2 _ _ upd_same)), .inl (.inl hp), (fun z => by cases z), (by show 3 ≤ sizeLine; decide), (fun z => by cases z), fun _ p2 np2 => ?_⟩
      exact k p2 _ (st.trans (s2.trans (Same.new np2))) upd_same
    | short =>
      rw [e] at k
      refine fun H2 s2 => ⟨true, ER.eS, fun _ x nx => ?_, fun z => Bool.noConfusion z⟩
      refine ⟨_, rfl, CS, .ref CW, .ref CW, false, rfl, rfl, ER.cS, .inl rfl, fun u h => h, ER.kSW, _, rfl, ?_⟩
      refine iteF ?_
      refine ⟨_, rfl, CS, .ref CS, .ref CS, true, rfl, rfl, ER.cS, .inl rfl, fun u h => h, kit_self, _, rfl, ?_⟩
      refine iteT ?_
      exact ⟨(by show 1 ≤ sizeLine; decide), fun t2 nt2 => k t2 _ (st.trans (s2.trans (Same.new nt2))) upd_same⟩
    | wrong p =>
      rw [e] at k
      refine fun d H2 s2 nd hd => ⟨true, ER.eW, fun _ x nx => ?_, fun z => Bool.noConfusion z⟩
      refine ⟨_, rfl, CW, .ref CW, .ref CW, true, rfl, rfl, ER.cW, .inr ⟨d, _, rfl, hd⟩, fun u h => h, kit_self, _, rfl, ?_⟩
      refine iteT ?_
      exact ⟨_, rfl, rfl, rfl, d, _, rfl, hd, (by show 2 ≤ sizeLine; decide), fun t2 nt2 => k t2 _ (st.trans (s2.trans (Same.new nt2))) upd_same⟩
end
end K01
namespace K01
open PySem L2  RZ Cnt
section
variable {P : Program} {w : World} {K : PySem.W.Frag} {mg : Str → Option Value} {base : Heap} {CE CW CS fI fRt fRv fTd fVd : Addr}
theorem ok_law {f fS fT fPk fSv fWt fWv fR fA fTo fVo fG : Addr} {fd fdS fdT fdPk fdSv fdWt fdWv fdRt fdRv fdR fdA fdTo fdVo fdG fdTd fdVd : FuncData} (D : Dfn K mg "law" slaw plaw f fd) (B : Bi mg) (T : Sx mg) (ER : ErT P K mg CE CW CS fI)
    (DS : Dfn K mg "_law_some_octets" s_law_some_octets p_law_some_octets fS fdS) (GS : FnOk P w K mg base CX0 4 fS fdS p_law_some_octets (spSome K))
    (DT : Dfn K mg "_law_some_text" s_law_some_text p_law_some_text fT fdT) (GT : FnOk P w K mg base CX0 3 fT fdT p_law_some_text (spST K))
    (DPk : Dfn K mg "_law_pick" s_law_pick p_law_pick fPk fdPk) (GPk : FnOk P w K mg base CX0 2 fPk fdPk p_law_pick (spPick K))
    (DSv : Dfn K mg "_law_some_value" s_law_some_value p_law_some_value fSv fdSv) (GSv : FnOk P w K mg base CX0 4 fSv fdSv p_law_some_value (spSV K))
    (DWt : Dfn K mg "write_text" swrite_text pwrite_text fWt fdWt) (GWt : FnOk P w K mg base CX0 3 fWt fdWt pwrite_text spTO)
    (DWv : Dfn K mg "write_value" swrite_value pwrite_value fWv fdWv) (GWv : FnOk P w K mg base CX0 4 fWv fdWv pwrite_value spVO)
    (DRt : Dfn K mg "read_text" sread_text pread_text fRt fdRt) (GRt : FnOk P w K mg base (L2.CX P w) 5 fRt fdRt pread_text (spIF K CW CS tFrom))
    (DRv : Dfn K mg "read_value" sread_value pread_value fRv fdRv) (GRv : FnOk P w K mg base (L2.CX P w) 6 fRv fdRv pread_value (spIF K CW CS vFrom))
    (DR : Dfn K mg "_law_signs_row" s_law_signs_row p_law_signs_row fR fdR) (GR : FnOk P w K mg base CX0 1 fR fdR p_law_signs_row spRow)
    (DA : Dfn K mg "_law_alike" s_law_alike p_law_alike fA fdA) (GA : FnOk P w K mg base CX0 4 fA fdA p_law_alike (spAlike K 2))
    (DTo : Dfn K mg "_law_text_octets" s_law_text_octets p_law_text_octets fTo fdTo) (GTo : FnOk P w K mg base CX0 2 fTo fdTo p_law_text_octets spTO)
    (DVo : Dfn K mg "_law_value_octets" s_law_value_octets p_law_value_octets fVo fdVo) (GVo : FnOk P w K mg base CX0 3 fVo fdVo p_law_value_octets spVO)
    (DG : Dfn K mg "_law_groups" s_law_groups p_law_groups fG fdG) (GG : FnOk P w K mg base CX0 1 fG fdG p_law_groups spCO)
    (DTd : Dfn K mg "_law_text_due" s_law_text_due p_law_text_due fTd fdTd) (GTd : FnOk P w K mg base CX0 2 fTd fdTd p_law_text_due (spTD K tFrom))
    (DVd : Dfn K mg "_law_value_due" s_law_value_due p_law_value_due fVd fdVd) (GVd : FnOk P w K mg base CX0 3 fVd fdVd p_law_value_due (spTD K vFrom)) :
    FnOk P w K mg base CX0 7 f fd plaw (spLaw K) := by
  have nd := sclaw.nd
  obtain ⟨tsg, hsg⟩ := T.sg
  have AR : ∀ g sp, SR K CW CS fRt fRv g sp → ∃ (gd : FuncData) (ps : List Str), FnOk P w K mg base (L2.CX P w) 6 g gd ps sp ∧ PySem.W.keepIn K (.ref g) = true ∧ Binds K gd ps [] := fun g sp h => by
    rcases h with ⟨rfl, rfl⟩ | ⟨rfl, rfl⟩
    · exact ⟨fdRt, _, GRt.mono (by decide), DRt.F.kp, DRt.b⟩
    · exact ⟨fdRv, _, GRv, DRv.F.kp, DRv.b⟩
  have AD : ∀ g sp, SD K fTd fVd g sp → ∃ (gd : FuncData) (ps : List Str), FnOk P w K mg base CX0 3 g gd ps sp ∧ PySem.W.keepIn K (.ref g) = true ∧ Binds K gd ps [] := fun g sp h => by
    rcases h with ⟨rfl, rfl⟩ | ⟨rfl, rfl⟩
    · exact ⟨fdTd, _, GTd.mono (by decide), DTd.F.kp, DTd.b⟩
    · exact ⟨fdVd, _, GVd, DVd.F.kp, DVd.b⟩
  refine D.F.ok sclaw (fun vs H Q E h => ?_) (fun cdv A outer s H vs Q E hr h => ?_)
  · obtain ⟨a, ns, rfl, _⟩ := h
    rfl
  · obtain ⟨sc, ns, rfl, hS, hlen, q⟩ := h
    have hr1 : Room 1 _ := hr.mono (by decide)
    have hr2 : Room 2 _ := hr.mono (by decide)
    have hr3 : Room 3 _ := hr.mono (by decide)
    have hr4 : Room 4 _ := hr.mono (by decide)
    have hr5 : Room 5 _ := hr.mono (by decide)
    refine ⟨_, pss_cons (ps_set (i := 1) nd rfl (.inl rfl) (pe_lst (pa_cons (pv 0) (pa_cons pe_int (pa_cons pe_int (pa_cons pe_int pa_nil))))))
      (pss_cons (ps_par3 (i := 2) (j := 3) (l := 4) (by rfl) nd rfl rfl rfl (by decide) (by decide) (by decide) rfl rfl rfl (pa_cons
          (pe_call GT hr3 (by rfl) DT.g DT.F.kp DT.b .nil pass0 (pa_cons (pv 1) (pa_cons (pe_call GPk hr2 (by rfl) DPk.g DPk.F.kp DPk.b .nil pass0 (pa_cons (pv 1) (pa_cons (pe_lst (pa_cons pe_int (pa_cons pe_int (pa_cons pe_int pa_nil)))) pa_nil))) pa_nil)))
          (pa_cons (pe_call GSv hr4 (by rfl) DSv.g DSv.F.kp DSv.b .nil pass0 (pa_cons (pv 1) pa_nil))
          (pa_cons (pe_call GS hr4 (by rfl) DS.g DS.F.kp DS.b .nil pass0 (pa_cons (pv 1) (pa_cons pe_int pa_nil))) pa_nil))) (by rfl))
      (pss_cons (ps_par (i := 5) (j := 6) (by rfl) nd rfl rfl (by decide) rfl rfl (pa_cons (pe_call GWt hr3 (by rfl) DWt.g DWt.F.kp DWt.b .nil pass0 (pa_cons (pv 2) pa_nil)) (pa_cons (pe_call GWv hr4 (by rfl) DWv.g DWv.F.kp DWv.b .nil pass0 (pa_cons (pv 3) pa_nil)) pa_nil)) (by rfl))
      (pss_cons (ps_if (pt_cmpR op_ne (pe_glob (v := .str sgs) rfl hsg ⟨_, rfl⟩) (pe_call0 GR hr1 (by rfl) DR.g DR.F.kp DR.b .nil pass0) (nomark _)) (pss_one ps_never) pss_nil)
      (pss_cons (ps_if (pt_not (pt_val (pe_call GA hr4 (by rfl) DA.g DA.F.kp DA.b .nil pass0 (pa_cons (pe_lst (pa_cons (pv 5) (pa_cons (pv 6) pa_nil))) (pa_cons
          (pe_lst (pa_cons (pe_call GTo hr2 (by rfl) DTo.g DTo.F.kp DTo.b .nil pass0 (pa_cons (pv 2) pa_nil)) (pa_cons (pe_call GVo hr3 (by rfl) DVo.g DVo.F.kp DVo.b .nil pass0 (pa_cons (pv 3) pa_nil)) pa_nil))) pa_nil))))) (pss_one ps_never) pss_nil)
      (pss_cons (ps_if (pt_not (pt_val (pe_call GA hr4 (by rfl) DA.g DA.F.kp DA.b .nil pass0 (pa_cons
          (pe_callS GRt hr5 (by rfl) DRt.g DRt.F.kp DRt.b (E := WE (fun _ _ _ _ => False)) (fun σ => passAt takes0 σ) (by exact (pa_cons (pe_op op_catA (pe_op op_catA (pv 4) (pv 5)) (pe_tup (pa_cons pe_int pa_nil))) (pa_cons (pe_callB call_len_seq (by rfl) B.len PySem.boot_len (pa_cons (pv 4) pa_nil)) pa_nil))))
          (pa_cons (pe_tup (pa_cons (pv 2) (pa_cons (pe_op op_add (pe_callB call_len_seq (by rfl) B.len PySem.boot_len (pa_cons (pv 4) pa_nil)) (pe_callB call_len_seq (by rfl) B.len PySem.boot_len (pa_cons (pv 5) pa_nil))) pa_nil))) pa_nil))))) (pss_one ps_never) pss_nil)
      (pss_cons (ps_if (pt_not (pt_val (pe_call GA hr4 (by rfl) DA.g DA.F.kp DA.b .nil pass0 (pa_cons
          (pe_callS GRv hr (by rfl) DRv.g DRv.F.kp DRv.b (E := WE (fun _ _ _ _ => False)) (fun σ => passAt takes0 σ) (by exact (pa_cons (pe_op op_catA (pe_op op_catA (pv 4) (pv 6)) (pe_tup (pa_cons pe_int pa_nil))) (pa_cons (pe_callB call_len_seq (by rfl) B.len PySem.boot_len (pa_cons (pv 4) pa_nil)) pa_nil))))
          (pa_cons (pe_tup (pa_cons (pv 3) (pa_cons (pe_op op_add (pe_callB call_len_seq (by rfl) B.len PySem.boot_len (pa_cons (pv 4) pa_nil)) (pe_callB call_len_seq (by rfl) B.len PySem.boot_len (pa_cons (pv 6) pa_nil))) pa_nil))) pa_nil))))) (pss_one ps_never) pss_nil)
      (pss_cons (ps_set (i := 7) nd rfl (.inl rfl) (pe_call GS hr4 (by rfl) DS.g DS.F.kp DS.b .nil pass0 (pa_cons (pv 1) (pa_cons pe_int pa_nil))))
      (pss_cons (ps_set (i := 8) nd rfl (.inl rfl) (pe_lst
          (pa_cons (pv 7)
          (pa_cons (pe_op op_catA (pe_tup (pa_cons pe_int pa_nil)) (pv 7))
          (pa_cons (pe_op op_catA (pe_tup (pa_cons pe_int pa_nil)) (pv 7))
          (pa_cons (pe_slice sl_tupA (pv 5) po_none (po_some (pe_un un_neg pe_int)))
          (pa_cons (pe_slice sl_tupA (pv 6) po_none (po_some (pe_un un_neg pe_int)))
          (pa_cons (pe_slice sl_tupA (pv 6) (po_some pe_int) po_none)
          (pa_cons (pe_op op_catT (pe_tup (pa_cons pe_int (pa_cons pe_int (pa_cons pe_int pa_nil)))) (pe_op op_repT (pe_tup (pa_cons pe_int pa_nil)) pe_int))
          (pa_cons (pe_tup (pa_cons pe_int (pa_cons pe_int (pa_cons pe_int pa_nil)))) pa_nil))))))))))
      (pss_cons (ps_set (i := 8) nd rfl (.inl rfl) (pe_op op_cat (pv 8) (pe_lst
          (pa_cons (pe_op op_catT (pe_tup (pa_cons pe_int pa_nil)) (pe_call GG hr1 (by rfl) DG.g DG.F.kp DG.b .nil pass0 (pa_cons (pe_op op_add (pe_op op_shl pe_int pe_int) pe_int) pa_nil)))
          (pa_cons (pe_op op_catT (pe_tup (pa_cons pe_int pa_nil)) (pe_call GG hr1 (by rfl) DG.g DG.F.kp DG.b .nil pass0 (pa_cons (pe_op op_add (pe_op op_shl pe_int pe_int) pe_int) pa_nil)))
          (pa_cons (pe_tup (pa_cons pe_int pa_nil)) pa_nil))))))
      (pss_cons (ps_for PassesOwn.never rfl (pi_list (pv 8)) (pg_name (i := 9) nd rfl (.inl rfl))
        (pss_one (ps_for PassesOwn.never rfl (pi_list (pe_lst (pa_cons (pe_tup (pa_cons (pe_glob (v := .ref fRt) rfl DRt.g rfl) (pa_cons (pe_glob (v := .ref fTd) rfl DTd.g rfl) pa_nil))) (pa_cons (pe_tup (pa_cons (pe_glob (v := .ref fRv) rfl DRv.g rfl) (pa_cons (pe_glob (v := .ref fVd) rfl DVd.g rfl) pa_nil))) pa_nil))))
            (pg_tup rfl (pgs_cons (pg_name (i := 10) nd rfl (.inl rfl)) (pgs_cons (pg_name (i := 11) nd rfl (.inl rfl)) pgs_nil)))
          (pss_cons (ps_set (i := 12) nd rfl (.inl rfl) pe_non)
          (pss_cons (ps_try_as (i := 13) (tb := t_body K CW CS fRt fRv) (ts := t_suite K CW CS) (Wout := fun _ _ _ _ => False) rfl rfl nd rfl rfl ⟨rfl, by decide, Or.inl ER.g⟩ takes0
            (fun W pn xe tk _ => pss_one (ps_set (i := 12) nd rfl (.inl rfl) (by exact (pe_op op_catT (pe_tup (pa_cons pe_str pa_nil)) (pe_callAS AR hr rfl (.inl rfl) (fun σ => passAt tk σ) (by exact (pa_cons (pv 9) (pa_cons pe_int pa_nil))))))))
            (fun a oe cls d pn hz hf => pss_one (ps_set (i := 12) nd rfl (.inl rfl) (by exact (pe_ifExp (pt_val (pe_callB (call_isX hz hf) (by rfl) B.isinstance (by decide +kernel) (pa_cons (pv 13) (pa_cons (pe_glob (v := .ref CW) rfl ER.w.gC rfl) pa_nil)))) (pe_tup (pa_cons pe_str (pa_cons (pe_byWr ER.w hz hf (pv 13)) pa_nil)))
              (pe_ifExp (pt_val (pe_callB (call_isX hz hf) (by rfl) B.isinstance (by decide +kernel) (pa_cons (pv 13) (pa_cons (pe_glob (v := .ref CS) rfl ER.s.g rfl) pa_nil)))) (pe_tup (pa_cons pe_str pa_nil)) pe_str))))))
          (pss_one (ps_if (pt_not (pt_val (pe_call GA hr4 (by rfl) DA.g DA.F.kp DA.b .nil pass0 (pa_cons (pv 12) (pa_cons (pe_callAS (i := 11) AD hr3 rfl (.inl rfl) (E := fun _ => E0) (fun _ _ _ _ _ _ _ h => h.elim) (by exact (pa_cons (pv 9) (pa_cons pe_int pa_nil)))) pa_nil))))) (pss_one ps_never) pss_nil)))))))
      (pss_one (ps_ret pe_bl)))))))))))), ?_⟩
    -- row
    refine ⟨_, rfl, (by show 4 ≤ sizeLine; decide), fun r hr0 => ?_⟩
    have R0 : RowI K (upd H r (.lst [.ref sc, .int 0, .int 10701, .int 0])) r sc ns := RowI.start hS hr0 (by decide) (by decide)
    generalize upd H r (.lst [.ref sc, .int 0, .int 10701, .int 0]) = H0 at R0
    -- text, value, ahead
    refine ⟨_, rfl, _, rfl, (by show 3 ≤ sizeLine; decide), fun pk npk => ?_⟩
    have npkr : pk ≠ r := R0.new npk
    refine ⟨r, sc, ns, pk, _, rfl, R0.same (Same.new npk), SqL.of upd_same, npkr, by decide, by decide, fun u H1 hu R1 k1 => ?_⟩
    obtain ⟨m, rfl, hm⟩ : ∃ m : Nat, u = V.int (m : Int) ∧ m ≤ 200 := by
      rcases List.mem_cons.mp hu with rfl | hu
      · exact ⟨4, rfl, by decide⟩
      rcases List.mem_cons.mp hu with rfl | hu
      · exact ⟨30, rfl, by decide⟩
      · rw [List.mem_singleton.mp hu]
        exact ⟨200, rfl, by decide⟩
    refine ⟨r, sc, ns, m, rfl, R1, by omega, fun t H2 ht htl R2 k2 => ?_⟩
    refine ⟨_, rfl, r, sc, ns, rfl, R2, fun v H3 hv R3 k3 => ?_⟩
    refine ⟨_, rfl, r, sc, ns, 3, rfl, R3, by decide, fun p l H4 hb hl np hp R4 k4 => ?_⟩
    refine ⟨_, _, _, rfl, ?_⟩
    have hpr : p ≠ r := by
      obtain ⟨⟨_, _, _, h, _⟩, _⟩ := R4
      exact ne_of hp h (by intro z; cases z)
    have htl2 : t.length ≤ 200 := by omega
    -- one, two
    refine ⟨_, rfl, t, rfl, ht, htl2, fun o H5 s5 no ho => ?_⟩
    refine ⟨_, rfl, v, rfl, hv, fun o2 H6 s6 ho2 => ?_⟩
    refine ⟨_, _, rfl, ?_⟩
    have hp6 := (s5.trans s6) _ _ hp
    have ho6 := s6 _ _ ho
    have R6 := R4.same (s5.trans s6)
    clear s5 s6 hp ho R4
    have b1 : Byt (cOct t.length ++ t) := fun x hx => by
      rcases List.mem_append.mp hx with hx | hx
      · exact cOct_bt (t.length + 1) t.length (Nat.lt_succ_self _) x hx
      · have := ht x hx
        omega
    have l1 : (cOct t.length ++ t).length ≤ 220 := by
      have := cOct_len 8 t.length (by omega)
      rw [List.length_append]
      omega
    have l1' : 1 ≤ (cOct t.length ++ t).length := by
      have := cOct_pos t.length
      rw [List.length_append]
      omega
    have b2 := vOct_bt hv
    obtain ⟨l2', l2⟩ := vOct_len hv
    have vok : RVOk (.done v 0) := by
      cases v with
      | non => trivial
      | int i => trivial
      | txt l => exact hv.1
    -- the signs
    refine ⟨rfl, rfl, _, rfl, ?_⟩
    rw [show (!decide (V.str sgs = V.str sgs)) = false by rw [decide_eq_true rfl]; rfl]
    refine iteF ?_
    -- their octets
    have pl2 : ∀ n, Pl (n + 2) (.list ([cOct t.length ++ t, vOct v].map fun l => PyData.tuple (dI l))) := fun n => tus_pl (fun l hl => by
      rcases List.mem_cons.mp hl with rfl | hl
      · omega
      · rw [List.mem_singleton.mp hl]
        omega) (by show 2 ≤ 100000; decide) n
    refine nx_of ?_
    refine chk_of ?_
    refine lst_of (ls := [cOct t.length ++ t, vOct v]) (gdl_cons (gd_var rfl ho6) (gdl_cons (gd_var rfl ho2) gdl_nil)) (by show 2 ≤ 1000; decide) (fun _ _ h => h) fun ps1 c1 Ha sa nc1 hps1 hc1 => ?_
    refine lst_of (ls := [cOct t.length ++ t, vOct v]) (gdl_cons (fun H1 s Q q => ⟨_, rfl, t, rfl, ht, htl2, fun p H' s' np hp => q p H' s' hp⟩) (gdl_cons (fun H1 s Q q => ⟨_, rfl, v, rfl, hv, fun p H' s' hp => q p H' s' hp⟩) gdl_nil)) (by show 2 ≤ 1000; decide) sa fun ps2 c2 Hb sb nc2 hps2 hc2 => ?_
    refine ck_same (d := .list ([cOct t.length ++ t, vOct v].map fun l => PyData.tuple (dI l))) (.lst (SqL.of (sb _ _ hc1)) (Tus.dp (Tus.same sb hps1))) (.lst (SqL.of hc2) (Tus.dp hps2)) (pl2 18) (pl2 0) fun H7 s7 => ?_
    refine iteF ?_
    have s67 := sa.trans (sb.trans s7)
    have hp7 := s67 _ _ hp6
    have ho7 := s67 _ _ ho6
    have hw7 := s67 _ _ ho2
    have R7 := R6.same s67
    clear s67 sb sa hps1 hps2 hc1 hc2 nc1 nc2 s7 hp6 ho6 ho2 R6
    have byt7 : ∀ {z : List Nat}, Byt z → Byt (l ++ z ++ [7]) := fun {z} hz x hx => by
      rcases List.mem_append.mp hx with hx | hx
      · rcases List.mem_append.mp hx with hx | hx
        · exact hb x hx
        · exact hz x hx
      · rw [List.mem_singleton.mp hx]
        decide
    -- the text there and back
    refine chk_of (tCallS_of (tCons_of ?_))
    refine gd_catA (gd_catA (gd_var rfl hp7) (gd_var rfl ho7) (by omega)) gd_one (by rw [List.length_append]; show l.length + (cOct t.length ++ t).length + 1 ≤ 1000; omega) H7 (fun _ _ h => h) _ fun g H8 s8 hg => ?_
    have hp8 := s8 _ _ hp7
    have ho8 := s8 _ _ ho7
    refine ⟨_, rfl, p, _, rfl, .inr (.inl (.inl hp8)), g, l ++ (cOct t.length ++ t) ++ [7], l.length, by rw [bV_len], .inl (.inl hg), byt7 b1, by rw [List.length_append, List.length_append]; omega, by rw [List.length_append, List.length_append]; show l.length + (cOct t.length ++ t).length + 1 ≤ 100000; omega, ?_⟩
    rw [tFrom_back l [7] ht htl2]
    intro y H9 s9 ny hy
    have hp9 := s9 _ _ hp8
    have ho9 := s9 _ _ ho8
    refine ⟨_, rfl, _, rfl, p, _, rfl, .inr (.inl (.inl hp9)), _, rfl, o, _, rfl, .inr (.inl (.inl ho9)), _, _, rfl, rfl, (by show 2 ≤ sizeLine; decide), fun u nu => ?_⟩
    have pair : ∀ (v : Val) (n k : Nat), RVOk (.done v 0) → Pl (k + 1) (.tuple [vD v, .int (n : Int)]) := fun v n k h => ⟨by show 2 ≤ 100000; decide, fun x hx => by
      rcases List.mem_cons.mp hx with rfl | hx
      · exact vD_pl k h
      rcases List.mem_cons.mp hx with rfl | hx
      · cases k <;> exact True.intro
      · cases hx⟩
    have su := Same.new (o := .tup [V.str (tx t), V.int (((bV l).length : Int) + ((bV (cOct t.length ++ t)).length : Int))]) nu
    refine ck_same (d := .tuple [vD (.txt t), .int ((l.length + (cOct t.length ++ t).length : Nat) : Int)]) (.tup (.inl (.inl (su _ _ hy))) (.cons (vD_dp _) (.cons (.int _) .nil))) (.tup (xs := [vV (.txt t), .int ((l.length + (cOct t.length ++ t).length : Nat) : Int)]) (.inl (.inl ?hu)) (.cons (vD_dp _) (.cons (.int _) .nil))) (pair _ _ 19 ht) (pair _ _ 1 ht) fun H10 s10 => ?_
    case hu =>
      rw [upd_same, bV_len, bV_len]
      rfl
    refine iteF ?_
    have s710 := s8.trans (s9.trans (su.trans s10))
    have hpA := s710 _ _ hp7
    have hoA := s710 _ _ ho7
    have hwA := s710 _ _ hw7
    have RA := R7.same s710
    clear s710 su s10 hy s9 s8 hg hp8 ho8 hp9 ho9 nu ny hp7 ho7 hw7 R7
    -- the value there and back
    refine chk_of (tCallS_of (tCons_of ?_))
    refine gd_catA (gd_catA (gd_var rfl hpA) (gd_var rfl hwA) (by omega)) gd_one (by rw [List.length_append]; show l.length + (vOct v).length + 1 ≤ 1000; omega) H10 (fun _ _ h => h) _ fun g H8 s8 hg => ?_
    have hp8 := s8 _ _ hpA
    have ho8 := s8 _ _ hwA
    refine ⟨_, rfl, p, _, rfl, .inr (.inl (.inl hp8)), g, l ++ vOct v ++ [7], l.length, by rw [bV_len], .inl (.inl hg), byt7 b2, by rw [List.length_append, List.length_append]; omega, by rw [List.length_append, List.length_append]; show l.length + (vOct v).length + 1 ≤ 100000; omega, ?_⟩
    rw [vFrom_back l [7] hv]
    intro y H9 s9 ny hy
    have hp9 := s9 _ _ hp8
    have ho9 := s9 _ _ ho8
    refine ⟨_, rfl, _, rfl, p, _, rfl, .inr (.inl (.inl hp9)), _, rfl, o2, _, rfl, .inr (.inl (.inl ho9)), _, _, rfl, rfl, (by show 2 ≤ sizeLine; decide), fun u nu => ?_⟩
    have su := Same.new (o := .tup [vV v, V.int (((bV l).length : Int) + ((bV (vOct v)).length : Int))]) nu
    refine ck_same (d := .tuple [vD v, .int ((l.length + (vOct v).length : Nat) : Int)]) (.tup (.inl (.inl (su _ _ hy))) (.cons (vD_dp _) (.cons (.int _) .nil))) (.tup (xs := [vV v, .int ((l.length + (vOct v).length : Nat) : Int)]) (.inl (.inl ?hu)) (.cons (vD_dp _) (.cons (.int _) .nil))) (pair _ _ 19 vok) (pair _ _ 1 vok) fun H11 s11 => ?_
    case hu =>
      rw [upd_same, bV_len, bV_len]
      rfl
    refine iteF ?_
    have s710 := s8.trans (s9.trans (su.trans s11))
    have hoB := s710 _ _ hoA
    have hwB := s710 _ _ hwA
    have RB := RA.same s710
    clear s710 su s11 hy s9 s8 hg hp8 ho8 hp9 ho9 nu ny hpA hoA hwA RA
    -- some
    refine ⟨_, rfl, r, sc, ns, 8, rfl, RB, by decide, fun e l3 H12 hb3 hl3 ne he RC kC => ?_⟩
    have hor : o ≠ r := by
      obtain ⟨⟨_, _, _, h, _⟩, _⟩ := RB
      exact ne_of hoB h (by intro z; cases z)
    have hwr : o2 ≠ r := by
      obtain ⟨⟨_, _, _, h, _⟩, _⟩ := RB
      exact ne_of hwB h (by intro z; cases z)
    have hoC := kC _ _ hor hoB
    have hwC := kC _ _ hwr hwB
    clear kC RB hoB hwB
    -- rows
    obtain ⟨m1, x1, em1⟩ := last_of l1'
    obtain ⟨m2, x2, em2⟩ := last_of l2'
    obtain ⟨y2, n2, en2⟩ : ∃ y n, vOct v = y :: n := by
      cases e : vOct v with
      | nil => rw [e] at l2'; cases l2'
      | cons y n => exact ⟨y, n, rfl⟩
    have ho1 : H12 o = some (.tup (bV (m1 ++ [x1]))) := by rw [← em1]; exact hoC
    have hw1 : H12 o2 = some (.tup (bV (m2 ++ [x2]))) := by rw [← em2]; exact hwC
    have hw2 : H12 o2 = some (.tup (bV (y2 :: n2))) := by rw [← en2]; exact hwC
    let R1s : List (List Nat) := [l3, [2] ++ l3, [1] ++ l3, m1, m2, n2, [2, 201, 1] ++ (List.replicate 201 [5]).flatten, [2, 1, 77]]
    let R2s : List (List Nat) := [[1] ++ cOct 2199023255553, [1] ++ cOct 2199023255554, [3]]
    have oksub : ∀ {z z' : List Nat}, (Byt z ∧ z.length ≤ 220) → (∀ x, x ∈ z' → x ∈ z) → z'.length ≤ z.length → Byt z' ∧ z'.length ≤ 300 := fun {z z'} h h1 h2 => ⟨fun x hx => h.1 x (h1 x hx), by omega⟩
    have okc : ∀ n, n < 2 ^ 63 → Byt ([1] ++ cOct n) ∧ ([1] ++ cOct n).length ≤ 300 := fun n hn => ⟨fun x hx => by
      rcases List.mem_append.mp hx with hx | hx
      · rw [List.mem_singleton.mp hx]
        decide
      · exact cOct_bt (n + 1) n (Nat.lt_succ_self _) x hx, by
      have := cOct_len 8 n (by rw [show (128 : Nat) = 2 ^ 7 from rfl, ← Nat.pow_mul]; exact hn)
      rw [List.length_append, List.length_singleton]
      omega⟩
    have ok2 : ∀ a, a < 256 → Byt ([a] ++ l3) ∧ ([a] ++ l3).length ≤ 300 := fun a ha => ⟨fun x hx => by
      rcases List.mem_append.mp hx with hx | hx
      · rw [List.mem_singleton.mp hx]
        exact ha
      · exact hb3 x hx, by rw [List.length_append, List.length_singleton]; omega⟩
    have okC : (∀ x, x ∈ [2, 201, 1] ++ (List.replicate 201 [5]).flatten → x < 256) ∧ ([2, 201, 1] ++ (List.replicate 201 [5]).flatten).length ≤ 300 := by decide +kernel
    have rows_ok : ∀ z, z ∈ R1s ++ R2s → Byt z ∧ z.length ≤ 300 := by
      intro z hz
      rcases List.mem_append.mp hz with hz | hz
      · rcases List.mem_cons.mp hz with rfl | hz
        · exact ⟨hb3, by omega⟩
        rcases List.mem_cons.mp hz with rfl | hz
        · exact ok2 2 (by decide)
        rcases List.mem_cons.mp hz with rfl | hz
        · exact ok2 1 (by decide)
        rcases List.mem_cons.mp hz with rfl | hz
        · exact oksub ⟨b1, l1⟩ (fun x hx => by rw [em1]; exact List.mem_append_left _ hx) (by rw [em1, List.length_append]; omega)
        rcases List.mem_cons.mp hz with rfl | hz
        · exact oksub ⟨b2, l2⟩ (fun x hx => by rw [em2]; exact List.mem_append_left _ hx) (by rw [em2, List.length_append]; omega)
        rcases List.mem_cons.mp hz with rfl | hz
        · exact oksub ⟨b2, l2⟩ (fun x hx => by rw [en2]; exact List.mem_cons_of_mem _ hx) (by rw [en2, List.length_cons]; omega)
        rcases List.mem_cons.mp hz with rfl | hz
        · exact okC
        · rw [List.mem_singleton.mp hz]
          have : (∀ x, x ∈ [2, 1, 77] → x < 256) ∧ [2, 1, 77].length ≤ 300 := by decide
          exact this
      · rcases List.mem_cons.mp hz with rfl | hz
        · exact okc _ (by decide)
        rcases List.mem_cons.mp hz with rfl | hz
        · exact okc _ (by decide)
        · rw [List.mem_singleton.mp hz]
          have : (∀ x, x ∈ [3] → x < 256) ∧ [3].length ≤ 300 := by decide
          exact this
    have lm1 : m1.length ≤ 220 := by rw [em1, List.length_append] at l1; omega
    have lm2 : m2.length ≤ 220 := by rw [em2, List.length_append] at l2; omega
    refine set_nx ?_
    refine seq_asg (fun v8 H' => ∃ (rw1 : Addr) (ps : List Addr), v8 = .ref rw1 ∧ H' rw1 = some (.lst (ps.map V.ref)) ∧ Tus H' ps R1s) (fun Q' k => ?_) ?_
    · refine lst_of (ls := R1s) (gdl_cons (gd_var rfl he) (gdl_cons (gd_catA (gd_one (a := 2)) (gd_var rfl he) (by show 1 + l3.length ≤ 1000; omega)) (gdl_cons (gd_catA (gd_one (a := 1)) (gd_var rfl he) (by show 1 + l3.length ≤ 1000; omega))
        (gdl_cons (gd_but rfl ho1) (gdl_cons (gd_but rfl hw1) (gdl_cons (gd_tail rfl hw2)
        (gdl_cons (gd_cat (gd_three (a := 2) (b := 201) (c := 1)) (gd_rep (k := 201) (gd_one (a := 5)) (by decide) (by decide) (by decide) (by decide)) (by decide) (by decide) (by decide +kernel))
        (gdl_cons (gd_three (a := 2) (b := 1) (c := 77)) gdl_nil)))))))) (by show 8 ≤ 1000; decide) (fun _ _ h => h) fun ps b Hc sc' nb hps hbc => ?_
      exact k _ _ ⟨b, ps, rfl, hbc, hps⟩
    rintro v8 H13 ⟨rw1, ps1, rfl, hrw1, hps1⟩
    refine gn_of ?_
    refine seq_asg (fun v8 H' => ∃ (rw1 : Addr) (ps : List Addr), v8 = .ref rw1 ∧ H' rw1 = some (.lst (ps.map V.ref)) ∧ Tus H' ps (R1s ++ R2s)) (fun Q' k => ?_) ?_
    · refine tOp_of (tVar_of rfl ?_)
      have gG : ∀ {σ : St} (z : Int) (n : Nat), (1 : Int) * 2 ^ (41 : Int).toNat + z = (n : Int) → n < 2 ^ 63 → Gd σ H13 (tCall spCO [] E0 (tCons (tOp (rI0 fun i j => .int (i + j)) (tOp (rI CPow fun i j => .int (i * 2 ^ j.toNat)) (tC (.int 1)) (tC (.int 41))) (tC (.int z))) tNil)) (cOct n) := fun {σ} z n e hn H1 s Q q =>
        ⟨_, _, rfl, rfl, ⟨by decide, by decide, by decide⟩, _, _, rfl, rfl, n, congrArg (fun z => [V.int z]) e, hn, fun p H' s' np hp => q p H' s' hp⟩
      have cl : ∀ n, n < 2 ^ 63 → cOct n ≠ [] ∧ (cOct n).length ≤ 9 := fun n hn => ⟨fun e => by
        have := cOct_pos n
        rw [e] at this
        exact absurd this (Nat.lt_irrefl 0), cOct_len 8 n (by rw [show (128 : Nat) = 2 ^ 7 from rfl, ← Nat.pow_mul]; exact hn)⟩
      have c1 := cl 2199023255553 (by decide)
      have c2 := cl 2199023255554 (by decide)
      refine lst_of (ls := R2s) (gdl_cons (gd_cat (gd_one (a := 1)) (gG 1 2199023255553 rfl (by decide)) (by decide) c1.1 (by show 1 + (cOct 2199023255553).length ≤ 1000; omega))
        (gdl_cons (gd_cat (gd_one (a := 1)) (gG 2 2199023255554 rfl (by decide)) (by decide) c2.1 (by show 1 + (cOct 2199023255554).length ≤ 1000; omega))
        (gdl_cons (gd_one (a := 3)) gdl_nil))) (by show 3 ≤ 1000; decide) (fun _ _ h => h) fun ps2 b Hc sc' nb hps2 hbc => ?_
      refine ⟨rw1, b, _, _, rfl, rfl, sc' _ _ hrw1, hbc, ?_, fun e2 ne2 => ?_⟩
      · rw [List.length_map, List.length_map, Tus.len hps1, Tus.len hps2]
        show 8 + 3 ≤ sizeLine
        decide
      · refine k _ _ ⟨e2, ps1 ++ ps2, rfl, ?_, Tus.append (Tus.same (sc'.trans (Same.new ne2)) hps1) (Tus.same (Same.new ne2) hps2)⟩
        rw [upd_same, List.map_append]
    rintro v8 H14 ⟨rw2, ps, rfl, hrw, hps⟩
    -- the values
    refine for_of (K := K) ?_
    refine tVar_of rfl ?_
    refine ⟨rw2, rfl, ⟨_, SqL.of hrw⟩, ?_⟩
    refine for_list (K := K) (a := rw2) (xs := ps.map V.ref) (fun i σ H15 => ∃ v9 v10 v11 v12 : Option V, σ = [some (.ref sc), some (.ref r), some (.str (tx t)), some (vV v), some (.ref p), some (.ref o), some (.ref o2), some (.ref e), some (.ref rw2), v9, v10, v11, v12, none] ∧ Same H14 H15) ⟨none, none, none, none, rfl, fun _ _ h => h⟩ ?_ ?_ ?_
    · rintro i σ H15 hi ⟨v9, v10, v11, v12, rfl, s15⟩
      exact SqL.of (s15 _ _ hrw)
    · rintro i y σ H15 hy ⟨v9, v10, v11, v12, rfl, s15⟩
      obtain ⟨a, ha, rfl⟩ : ∃ a, ps[i]? = some a ∧ y = V.ref a := by
        rw [List.getElem?_map] at hy
        cases e : ps[i]? with
        | none => rw [e] at hy; cases hy
        | some a => rw [e] at hy; exact ⟨a, rfl, (Option.some.inj hy).symm⟩
      obtain ⟨z, hz, haz⟩ := Tus.get hps ha
      obtain ⟨hbz, hlz⟩ := rows_ok z (List.mem_of_getElem? hz)
      have ha15 := s15 _ _ haz
      refine ⟨(by show 2 ≤ sizeLine; decide), fun t1 n1 => ?_⟩
      refine ⟨(by show 2 ≤ sizeLine; decide), fun t2 n2' => ?_⟩
      have sA : Same H15 (upd (upd H15 t1 (.tup [.ref fRt, .ref fTd])) t2 (.tup [.ref fRv, .ref fVd])) := (Same.new n1).trans (Same.new n2')
      have ht1 : (upd (upd H15 t1 (.tup [.ref fRt, .ref fTd])) t2 (.tup [.ref fRv, .ref fVd])) t1 = some (.tup [.ref fRt, .ref fTd]) := (Same.new n2') _ _ upd_same
      have ht2 : (upd (upd H15 t1 (.tup [.ref fRt, .ref fTd])) t2 (.tup [.ref fRv, .ref fVd])) t2 = some (.tup [.ref fRv, .ref fVd]) := upd_same
      generalize (upd (upd H15 t1 (.tup [.ref fRt, .ref fTd])) t2 (.tup [.ref fRv, .ref fVd])) = H16 at sA ht1 ht2
      refine ⟨(by show 2 ≤ sizeLine; decide), fun m nm => ⟨m, rfl, ⟨_, SqL.of upd_same⟩, ?_⟩⟩
      have hm : upd H16 m (.lst [V.ref t1, V.ref t2]) m = some (.lst [V.ref t1, V.ref t2]) := upd_same
      have sm : Same H16 (upd H16 m (.lst [V.ref t1, V.ref t2])) := Same.new nm
      generalize upd H16 m (.lst [V.ref t1, V.ref t2]) = H17 at hm sm
      have ha17 := (sA.trans sm) _ _ ha15
      have h17t1 := sm _ _ ht1
      have h17t2 := sm _ _ ht2
      refine for_list (K := K) (a := m) (xs := [V.ref t1, V.ref t2]) (fun i σ H18 => ∃ v10 v11 v12 : Option V, σ = [some (.ref sc), some (.ref r), some (.str (tx t)), some (vV v), some (.ref p), some (.ref o), some (.ref o2), some (.ref e), some (.ref rw2), some (.ref a), v10, v11, v12, none] ∧ Same H17 H18) ⟨v10, v11, v12, rfl, fun _ _ h => h⟩ ?_ ?_ ?_
      · rintro j σ H18 hj ⟨v10, v11, v12, rfl, s18⟩
        exact SqL.of (s18 _ _ hm)
      · rintro j y σ H18 hy ⟨v10, v11, v12, rfl, s18⟩
        have ha18 := s18 _ _ ha17
        obtain ⟨tt, fr, rd, du, rfl, htt, hrd, hdu, hok⟩ : ∃ (tt : Addr) (fr : List Nat → Nat → RV) (rd du : Addr), y = .ref tt ∧ H18 tt = some (.tup [.ref rd, .ref du]) ∧ SR K CW CS fRt fRv rd (spIF K CW CS fr) ∧ SD K fTd fVd du (spTD K fr) ∧ RVOk (fr z 0) := by
          match j, hy with
          | 0, hy => exact ⟨t1, tFrom, fRt, fTd, (Option.some.inj hy).symm, s18 _ _ h17t1, .inl ⟨rfl, rfl⟩, .inl ⟨rfl, rfl⟩, tFrom_ok z 0⟩
          | 1, hy => exact ⟨t2, vFrom, fRv, fVd, (Option.some.inj hy).symm, s18 _ _ h17t2, .inr ⟨rfl, rfl⟩, .inr ⟨rfl, rfl⟩, vFrom_ok z 0⟩
          | _ + 2, hy => cases hy
        refine ⟨tt, _, rfl, .inl (.inl htt), rfl, _, _, rfl, _, _, rfl, rfl, ?_⟩
        show t_body K CW CS fRt fRv (wAs K (.ref CE) 13 (t_suite K CW CS) (fun _ _ _ _ => False) _) _ ([some (.ref sc), some (.ref r), some (.str (tx t)), some (vV v), some (.ref p), some (.ref o), some (.ref o2), some (.ref e), some (.ref rw2)] ++ [some (.ref a), some (.ref rd), some (.ref du), some .non, none]) _
        refine try_ok ER rfl hrd (.inl (.inl ha18)) hbz (by omega) fun td H19 s19 htd => ?_
        have ha19 := s19 _ _ ha18
        refine chk_end (tVar_of rfl ?_)
        refine ⟨du, spTD K fr, rfl, hdu, _, rfl, a, z, 0, rfl, .inl (.inl ha19), hbz, by omega, fun g H20 s20 ng hg => ?_⟩
        refine ck_same (d := dRV (fr z 0)) (dRV_dp (s20 _ _ htd)) (dRV_dp hg) (dRV_pl 19 hok) (dRV_pl 1 hok) fun H21 s21 => ?_
        refine iteF ?_
        exact ⟨_, _, _, rfl, s18.trans (s19.trans (s20.trans s21))⟩
      · rintro σ H18 ⟨v10, v11, v12, rfl, s18⟩
        exact ⟨_, _, _, _, rfl, s15.trans (sA.trans (sm.trans s18))⟩
    · rintro σ H15 ⟨v9, v10, v11, v12, rfl, s15⟩
      exact q _
end
end K01
namespace K01
open PySem L2 Cnt RZ
/-- values of the written part that are these numbers -/
def visN : List Nat → List Value → Bool
  | [], [] => true
  | n :: l, .int i _ :: us => decide (i = (n : Int)) && visN l us
  | _, _ => false
theorem visN_vals : ∀ {l : List Nat} {us : List Value}, visN l us = true → Vals (bV l) us
  | [], [], _ => .nil
  | n :: l, .int i t :: us, h => by
    have h' : (decide (i = (n : Int)) && visN l us) = true := h
    rw [Bool.and_eq_true, decide_eq_true_eq] at h'
    exact .cons ⟨t, by rw [h'.1]⟩ (visN_vals h'.2)
theorem visN_len : ∀ {l : List Nat} {us : List Value}, visN l us = true → us.length = l.length := fun {l us} h => by
  have := (visN_vals h).length
  rw [bV_len] at this
  exact this.symm
theorem tupN_size {l : List Nat} {us : Array Value} (h : visN l us.toList = true) (hl : l.length ≤ 1000) : us.size ≤ sizeLine := by
  have := visN_len h
  rw [Array.length_toList] at this
  rw [this]
  exact Nat.le_trans hl (by decide)
theorem dfn_mk {K : PySem.W.Frag} {h : Heap} {mg : Str → Option Value} {x : Str} {st : Stmt} {ps : List Str} {f : Addr} {oc : Value} {od an : Option Addr} {osl : Array (Option Value)} {kV doc pm cdv ct : Value} (X : K.In h) (G : h.Ns mainGlobals mg)
    (a : PySem.W.nsIn K mainGlobals x = some (some (.ref f))) (l : K.lookup f = some ⟨oc, od, .func (PySem.W.fnOf x x (defArgs st) (defBody st) (defScope st) .none kV doc pm an cdv ct), osl⟩) (c : PySem.W.codeIn K cdv x = true) (k : PySem.W.keepIn K (.ref f) = true)
    (b : ∀ (kV doc pm : Value) (an : Option Addr) (cdv ct : Value) (us : List Value), us.length = ps.length → bindArgs (PySem.W.fnOf x x (defArgs st) (defBody st) (defScope st) .none kV doc pm an cdv ct) ⟨us, []⟩ = pure (ps.zip us)) :
    Dfn K mg x st ps f (PySem.W.fnOf x x (defArgs st) (defBody st) (defScope st) .none kV doc pm an cdv ct) := ⟨fun_mk l c k, PySem.W.mg_of X G a, (fun_mk l c k).binds b⟩
theorem all_mk {l : PySem.W.OpenLaw} {w : World} {K : PySem.W.Frag} {h : Heap} {mg : Str → Option Value} {fa f1 f2 f3 f4 f5 f6 f7 f8 f9 f10 f11 f12 f13 f14 f15 f16 f17 f18 f19 f20 f21 f22 f23 f24 f25 f26 f27 f28 f29 f30 f31 f32 : Addr} (X : K.In h) (G : h.Ns mainGlobals mg) (hfa : mg "law" = some (.ref fa))
    {od1 an1 od2 an2 od3 an3 od4 an4 od5 an5 od6 an6 od7 an7 od8 an8 od9 an9 od10 an10 od11 an11 od12 an12 od13 an13 od14 an14 od15 an15 od16 an16 od17 an17 od18 an18 od19 an19 od20 an20 od21 an21 od22 an22 od23 an23 od24 an24 od25 an25 od26 an26 od27 an27 od28 an28 od29 an29 od30 an30 od31 an31 od32 an32 : Option Addr} {sl1 sl2 sl3 sl4 sl5 sl6 sl7 sl8 sl9 sl10 sl11 sl12 sl13 sl14 sl15 sl16 sl17 sl18 sl19 sl20 sl21 sl22 sl23 sl24 sl25 sl26 sl27 sl28 sl29 sl30 sl31 sl32 : Array (Option Value)} {oc1 kV1 dc1 pm1 cd1 ct1 oc2 kV2 dc2 pm2 cd2 ct2 oc3 kV3 dc3 pm3 cd3 ct3 oc4 kV4 dc4 pm4 cd4 ct4 oc5 kV5 dc5 pm5 cd5 ct5 oc6 kV6 dc6 pm6 cd6 ct6 oc7 kV7 dc7 pm7 cd7 ct7 oc8 kV8 dc8 pm8 cd8 ct8 oc9 kV9 dc9 pm9 cd9 ct9 oc10 kV10 dc10 pm10 cd10 ct10 oc11 kV11 dc11 pm11 cd11 ct11 oc12 kV12 dc12 pm12 cd12 ct12 oc13 kV13 dc13 pm13 cd13 ct13 oc14 kV14 dc14 pm14 cd14 ct14 oc15 kV15 dc15 pm15 cd15 ct15 oc16 kV16 dc16 pm16 cd16 ct16 oc17 kV17 dc17 pm17 cd17 ct17 oc18 kV18 dc18 pm18 cd18 ct18 oc19 kV19 dc19 pm19 cd19 ct19 oc20 kV20 dc20 pm20 cd20 ct20 oc21 kV21 dc21 pm21 cd21 ct21 oc22 kV22 dc22 pm22 cd22 ct22 oc23 kV23 dc23 pm23 cd23 ct23 oc24 kV24 dc24 pm24 cd24 ct24 oc25 kV25 dc25 pm25 cd25 ct25 oc26 kV26 dc26 pm26 cd26 ct26 oc27 kV27 dc27 pm27 cd27 ct27 oc28 kV28 dc28 pm28 cd28 ct28 oc29 kV29 dc29 pm29 cd29 ct29 oc30 kV30 dc30 pm30 cd30 ct30 oc31 kV31 dc31 pm31 cd31 ct31 oc32 kV32 dc32 pm32 cd32 ct32 : Value}
    {t_MOST_OCTETS_OF_COUNT t_MOST_SIGNS t_MOST_INTEGER : Tok}
    {CE CW CS fI cda cc NW : Addr} {nmW qW qI tx file : Str} {bsW : List Value} {snW : List Str} {subW : List Value} {abW : Bool} {colW : Option Bool} {ddW odW anW cdd cldW : Option Addr} {w0 w1 w2 w3 w5 : Option Value} {ocW docW pmW ctW ccl clW : Value} {oslW ccs cslW : Array (Option Value)} {vsW : Array Value} {tf : Tok} {p1 p2 q1 q2 q3 q4 q5 q6 q7 q8 q9 r1 r2 r3 r4 : Pos} {t_sg : Tok}
    (a1 : PySem.W.nsIn K mainGlobals "is_between" = some (some (.ref f1))) (l1 : K.lookup f1 = some ⟨oc1, od1, .func (PySem.W.fnOf "is_between" "is_between" (defArgs sis_between) (defBody sis_between) (defScope sis_between) .none kV1 dc1 pm1 an1 cd1 ct1), sl1⟩) (c1 : PySem.W.codeIn K cd1 "is_between" = true) (k1 : PySem.W.keepIn K (.ref f1) = true)
    (a2 : PySem.W.nsIn K mainGlobals "is_octets" = some (some (.ref f2))) (l2 : K.lookup f2 = some ⟨oc2, od2, .func (PySem.W.fnOf "is_octets" "is_octets" (defArgs sis_octets) (defBody sis_octets) (defScope sis_octets) .none kV2 dc2 pm2 an2 cd2 ct2), sl2⟩) (c2 : PySem.W.codeIn K cd2 "is_octets" = true) (k2 : PySem.W.keepIn K (.ref f2) = true)
    (a3 : PySem.W.nsIn K mainGlobals "is_signs" = some (some (.ref f3))) (l3 : K.lookup f3 = some ⟨oc3, od3, .func (PySem.W.fnOf "is_signs" "is_signs" (defArgs sis_signs) (defBody sis_signs) (defScope sis_signs) .none kV3 dc3 pm3 an3 cd3 ct3), sl3⟩) (c3 : PySem.W.codeIn K cd3 "is_signs" = true) (k3 : PySem.W.keepIn K (.ref f3) = true)
    (a4 : PySem.W.nsIn K mainGlobals "is_value" = some (some (.ref f4))) (l4 : K.lookup f4 = some ⟨oc4, od4, .func (PySem.W.fnOf "is_value" "is_value" (defArgs sis_value) (defBody sis_value) (defScope sis_value) .none kV4 dc4 pm4 an4 cd4 ct4), sl4⟩) (c4 : PySem.W.codeIn K cd4 "is_value" = true) (k4 : PySem.W.keepIn K (.ref f4) = true)
    (a5 : PySem.W.nsIn K mainGlobals "count_octets" = some (some (.ref f5))) (l5 : K.lookup f5 = some ⟨oc5, od5, .func (PySem.W.fnOf "count_octets" "count_octets" (defArgs scount_octets) (defBody scount_octets) (defScope scount_octets) .none kV5 dc5 pm5 an5 cd5 ct5), sl5⟩) (c5 : PySem.W.codeIn K cd5 "count_octets" = true) (k5 : PySem.W.keepIn K (.ref f5) = true)
    (a6 : PySem.W.nsIn K mainGlobals "text_octets" = some (some (.ref f6))) (l6 : K.lookup f6 = some ⟨oc6, od6, .func (PySem.W.fnOf "text_octets" "text_octets" (defArgs stext_octets) (defBody stext_octets) (defScope stext_octets) .none kV6 dc6 pm6 an6 cd6 ct6), sl6⟩) (c6 : PySem.W.codeIn K cd6 "text_octets" = true) (k6 : PySem.W.keepIn K (.ref f6) = true)
    (a7 : PySem.W.nsIn K mainGlobals "value_octets" = some (some (.ref f7))) (l7 : K.lookup f7 = some ⟨oc7, od7, .func (PySem.W.fnOf "value_octets" "value_octets" (defArgs svalue_octets) (defBody svalue_octets) (defScope svalue_octets) .none kV7 dc7 pm7 an7 cd7 ct7), sl7⟩) (c7 : PySem.W.codeIn K cd7 "value_octets" = true) (k7 : PySem.W.keepIn K (.ref f7) = true)
    (a8 : PySem.W.nsIn K mainGlobals "count_from" = some (some (.ref f8))) (l8 : K.lookup f8 = some ⟨oc8, od8, .func (PySem.W.fnOf "count_from" "count_from" (defArgs scount_from) (defBody scount_from) (defScope scount_from) .none kV8 dc8 pm8 an8 cd8 ct8), sl8⟩) (c8 : PySem.W.codeIn K cd8 "count_from" = true) (k8 : PySem.W.keepIn K (.ref f8) = true)
    (a9 : PySem.W.nsIn K mainGlobals "text_from" = some (some (.ref f9))) (l9 : K.lookup f9 = some ⟨oc9, od9, .func (PySem.W.fnOf "text_from" "text_from" (defArgs stext_from) (defBody stext_from) (defScope stext_from) .none kV9 dc9 pm9 an9 cd9 ct9), sl9⟩) (c9 : PySem.W.codeIn K cd9 "text_from" = true) (k9 : PySem.W.keepIn K (.ref f9) = true)
    (a10 : PySem.W.nsIn K mainGlobals "integer_from" = some (some (.ref f10))) (l10 : K.lookup f10 = some ⟨oc10, od10, .func (PySem.W.fnOf "integer_from" "integer_from" (defArgs sinteger_from) (defBody sinteger_from) (defScope sinteger_from) .none kV10 dc10 pm10 an10 cd10 ct10), sl10⟩) (c10 : PySem.W.codeIn K cd10 "integer_from" = true) (k10 : PySem.W.keepIn K (.ref f10) = true)
    (a11 : PySem.W.nsIn K mainGlobals "value_from" = some (some (.ref f11))) (l11 : K.lookup f11 = some ⟨oc11, od11, .func (PySem.W.fnOf "value_from" "value_from" (defArgs svalue_from) (defBody svalue_from) (defScope svalue_from) .none kV11 dc11 pm11 an11 cd11 ct11), sl11⟩) (c11 : PySem.W.codeIn K cd11 "value_from" = true) (k11 : PySem.W.keepIn K (.ref f11) = true)
    (a12 : PySem.W.nsIn K mainGlobals "check_reading" = some (some (.ref f12))) (l12 : K.lookup f12 = some ⟨oc12, od12, .func (PySem.W.fnOf "check_reading" "check_reading" (defArgs scheck_reading) (defBody scheck_reading) (defScope scheck_reading) .none kV12 dc12 pm12 an12 cd12 ct12), sl12⟩) (c12 : PySem.W.codeIn K cd12 "check_reading" = true) (k12 : PySem.W.keepIn K (.ref f12) = true)
    (a13 : PySem.W.nsIn K mainGlobals "write_text" = some (some (.ref f13))) (l13 : K.lookup f13 = some ⟨oc13, od13, .func (PySem.W.fnOf "write_text" "write_text" (defArgs swrite_text) (defBody swrite_text) (defScope swrite_text) .none kV13 dc13 pm13 an13 cd13 ct13), sl13⟩) (c13 : PySem.W.codeIn K cd13 "write_text" = true) (k13 : PySem.W.keepIn K (.ref f13) = true)
    (a14 : PySem.W.nsIn K mainGlobals "read_text" = some (some (.ref f14))) (l14 : K.lookup f14 = some ⟨oc14, od14, .func (PySem.W.fnOf "read_text" "read_text" (defArgs sread_text) (defBody sread_text) (defScope sread_text) .none kV14 dc14 pm14 an14 cd14 ct14), sl14⟩) (c14 : PySem.W.codeIn K cd14 "read_text" = true) (k14 : PySem.W.keepIn K (.ref f14) = true)
    (a15 : PySem.W.nsIn K mainGlobals "write_value" = some (some (.ref f15))) (l15 : K.lookup f15 = some ⟨oc15, od15, .func (PySem.W.fnOf "write_value" "write_value" (defArgs swrite_value) (defBody swrite_value) (defScope swrite_value) .none kV15 dc15 pm15 an15 cd15 ct15), sl15⟩) (c15 : PySem.W.codeIn K cd15 "write_value" = true) (k15 : PySem.W.keepIn K (.ref f15) = true)
    (a16 : PySem.W.nsIn K mainGlobals "read_value" = some (some (.ref f16))) (l16 : K.lookup f16 = some ⟨oc16, od16, .func (PySem.W.fnOf "read_value" "read_value" (defArgs sread_value) (defBody sread_value) (defScope sread_value) .none kV16 dc16 pm16 an16 cd16 ct16), sl16⟩) (c16 : PySem.W.codeIn K cd16 "read_value" = true) (k16 : PySem.W.keepIn K (.ref f16) = true)
    (a17 : PySem.W.nsIn K mainGlobals "_law_taken" = some (some (.ref f17))) (l17 : K.lookup f17 = some ⟨oc17, od17, .func (PySem.W.fnOf "_law_taken" "_law_taken" (defArgs s_law_taken) (defBody s_law_taken) (defScope s_law_taken) .none kV17 dc17 pm17 an17 cd17 ct17), sl17⟩) (c17 : PySem.W.codeIn K cd17 "_law_taken" = true) (k17 : PySem.W.keepIn K (.ref f17) = true)
    (a18 : PySem.W.nsIn K mainGlobals "_law_pick" = some (some (.ref f18))) (l18 : K.lookup f18 = some ⟨oc18, od18, .func (PySem.W.fnOf "_law_pick" "_law_pick" (defArgs s_law_pick) (defBody s_law_pick) (defScope s_law_pick) .none kV18 dc18 pm18 an18 cd18 ct18), sl18⟩) (c18 : PySem.W.codeIn K cd18 "_law_pick" = true) (k18 : PySem.W.keepIn K (.ref f18) = true)
    (a19 : PySem.W.nsIn K mainGlobals "_law_signs_row" = some (some (.ref f19))) (l19 : K.lookup f19 = some ⟨oc19, od19, .func (PySem.W.fnOf "_law_signs_row" "_law_signs_row" (defArgs s_law_signs_row) (defBody s_law_signs_row) (defScope s_law_signs_row) .none kV19 dc19 pm19 an19 cd19 ct19), sl19⟩) (c19 : PySem.W.codeIn K cd19 "_law_signs_row" = true) (k19 : PySem.W.keepIn K (.ref f19) = true)
    (a20 : PySem.W.nsIn K mainGlobals "_law_some_text" = some (some (.ref f20))) (l20 : K.lookup f20 = some ⟨oc20, od20, .func (PySem.W.fnOf "_law_some_text" "_law_some_text" (defArgs s_law_some_text) (defBody s_law_some_text) (defScope s_law_some_text) .none kV20 dc20 pm20 an20 cd20 ct20), sl20⟩) (c20 : PySem.W.codeIn K cd20 "_law_some_text" = true) (k20 : PySem.W.keepIn K (.ref f20) = true)
    (a21 : PySem.W.nsIn K mainGlobals "_law_signed" = some (some (.ref f21))) (l21 : K.lookup f21 = some ⟨oc21, od21, .func (PySem.W.fnOf "_law_signed" "_law_signed" (defArgs s_law_signed) (defBody s_law_signed) (defScope s_law_signed) .none kV21 dc21 pm21 an21 cd21 ct21), sl21⟩) (c21 : PySem.W.codeIn K cd21 "_law_signed" = true) (k21 : PySem.W.keepIn K (.ref f21) = true)
    (a22 : PySem.W.nsIn K mainGlobals "_law_some_value" = some (some (.ref f22))) (l22 : K.lookup f22 = some ⟨oc22, od22, .func (PySem.W.fnOf "_law_some_value" "_law_some_value" (defArgs s_law_some_value) (defBody s_law_some_value) (defScope s_law_some_value) .none kV22 dc22 pm22 an22 cd22 ct22), sl22⟩) (c22 : PySem.W.codeIn K cd22 "_law_some_value" = true) (k22 : PySem.W.keepIn K (.ref f22) = true)
    (a23 : PySem.W.nsIn K mainGlobals "_law_octet" = some (some (.ref f23))) (l23 : K.lookup f23 = some ⟨oc23, od23, .func (PySem.W.fnOf "_law_octet" "_law_octet" (defArgs s_law_octet) (defBody s_law_octet) (defScope s_law_octet) .none kV23 dc23 pm23 an23 cd23 ct23), sl23⟩) (c23 : PySem.W.codeIn K cd23 "_law_octet" = true) (k23 : PySem.W.keepIn K (.ref f23) = true)
    (a24 : PySem.W.nsIn K mainGlobals "_law_some_octets" = some (some (.ref f24))) (l24 : K.lookup f24 = some ⟨oc24, od24, .func (PySem.W.fnOf "_law_some_octets" "_law_some_octets" (defArgs s_law_some_octets) (defBody s_law_some_octets) (defScope s_law_some_octets) .none kV24 dc24 pm24 an24 cd24 ct24), sl24⟩) (c24 : PySem.W.codeIn K cd24 "_law_some_octets" = true) (k24 : PySem.W.keepIn K (.ref f24) = true)
    (a25 : PySem.W.nsIn K mainGlobals "_law_alike" = some (some (.ref f25))) (l25 : K.lookup f25 = some ⟨oc25, od25, .func (PySem.W.fnOf "_law_alike" "_law_alike" (defArgs s_law_alike) (defBody s_law_alike) (defScope s_law_alike) .none kV25 dc25 pm25 an25 cd25 ct25), sl25⟩) (c25 : PySem.W.codeIn K cd25 "_law_alike" = true) (k25 : PySem.W.keepIn K (.ref f25) = true)
    (a26 : PySem.W.nsIn K mainGlobals "_law_groups" = some (some (.ref f26))) (l26 : K.lookup f26 = some ⟨oc26, od26, .func (PySem.W.fnOf "_law_groups" "_law_groups" (defArgs s_law_groups) (defBody s_law_groups) (defScope s_law_groups) .none kV26 dc26 pm26 an26 cd26 ct26), sl26⟩) (c26 : PySem.W.codeIn K cd26 "_law_groups" = true) (k26 : PySem.W.keepIn K (.ref f26) = true)
    (a27 : PySem.W.nsIn K mainGlobals "_law_text_octets" = some (some (.ref f27))) (l27 : K.lookup f27 = some ⟨oc27, od27, .func (PySem.W.fnOf "_law_text_octets" "_law_text_octets" (defArgs s_law_text_octets) (defBody s_law_text_octets) (defScope s_law_text_octets) .none kV27 dc27 pm27 an27 cd27 ct27), sl27⟩) (c27 : PySem.W.codeIn K cd27 "_law_text_octets" = true) (k27 : PySem.W.keepIn K (.ref f27) = true)
    (a28 : PySem.W.nsIn K mainGlobals "_law_value_octets" = some (some (.ref f28))) (l28 : K.lookup f28 = some ⟨oc28, od28, .func (PySem.W.fnOf "_law_value_octets" "_law_value_octets" (defArgs s_law_value_octets) (defBody s_law_value_octets) (defScope s_law_value_octets) .none kV28 dc28 pm28 an28 cd28 ct28), sl28⟩) (c28 : PySem.W.codeIn K cd28 "_law_value_octets" = true) (k28 : PySem.W.keepIn K (.ref f28) = true)
    (a29 : PySem.W.nsIn K mainGlobals "_law_count_due" = some (some (.ref f29))) (l29 : K.lookup f29 = some ⟨oc29, od29, .func (PySem.W.fnOf "_law_count_due" "_law_count_due" (defArgs s_law_count_due) (defBody s_law_count_due) (defScope s_law_count_due) .none kV29 dc29 pm29 an29 cd29 ct29), sl29⟩) (c29 : PySem.W.codeIn K cd29 "_law_count_due" = true) (k29 : PySem.W.keepIn K (.ref f29) = true)
    (a30 : PySem.W.nsIn K mainGlobals "_law_text_due" = some (some (.ref f30))) (l30 : K.lookup f30 = some ⟨oc30, od30, .func (PySem.W.fnOf "_law_text_due" "_law_text_due" (defArgs s_law_text_due) (defBody s_law_text_due) (defScope s_law_text_due) .none kV30 dc30 pm30 an30 cd30 ct30), sl30⟩) (c30 : PySem.W.codeIn K cd30 "_law_text_due" = true) (k30 : PySem.W.keepIn K (.ref f30) = true)
    (a31 : PySem.W.nsIn K mainGlobals "_law_value_due" = some (some (.ref f31))) (l31 : K.lookup f31 = some ⟨oc31, od31, .func (PySem.W.fnOf "_law_value_due" "_law_value_due" (defArgs s_law_value_due) (defBody s_law_value_due) (defScope s_law_value_due) .none kV31 dc31 pm31 an31 cd31 ct31), sl31⟩) (c31 : PySem.W.codeIn K cd31 "_law_value_due" = true) (k31 : PySem.W.keepIn K (.ref f31) = true)
    (a32 : PySem.W.nsIn K mainGlobals "law" = some (some (.ref f32))) (l32 : K.lookup f32 = some ⟨oc32, od32, .func (PySem.W.fnOf "law" "law" (defArgs slaw) (defBody slaw) (defScope slaw) .none kV32 dc32 pm32 an32 cd32 ct32), sl32⟩) (c32 : PySem.W.codeIn K cd32 "law" = true) (k32 : PySem.W.keepIn K (.ref f32) = true)
    (i_MOST_OCTETS_OF_COUNT : PySem.W.nsIn K mainGlobals "MOST_OCTETS_OF_COUNT" = some (some (.int 9 t_MOST_OCTETS_OF_COUNT)))
    (i_MOST_SIGNS : PySem.W.nsIn K mainGlobals "MOST_SIGNS" = some (some (.int 200 t_MOST_SIGNS)))
    (i_MOST_INTEGER : PySem.W.nsIn K mainGlobals "MOST_INTEGER" = some (some (.int 1099511627776 t_MOST_INTEGER)))
    (z_len : PySem.W.nsIn K mainGlobals "len" = some none)
    (z_int : PySem.W.nsIn K mainGlobals "int" = some none)
    (z_range : PySem.W.nsIn K mainGlobals "range" = some none)
    (z_tuple : PySem.W.nsIn K mainGlobals "tuple" = some none)
    (z_list : PySem.W.nsIn K mainGlobals "list" = some none)
    (z_isinstance : PySem.W.nsIn K mainGlobals "isinstance" = some none)
    (z_zip : PySem.W.nsIn K mainGlobals "zip" = some none)
    (z_type : PySem.W.nsIn K mainGlobals "type" = some none)
    (z_str : PySem.W.nsIn K mainGlobals "str" = some none)
    (z_bool : PySem.W.nsIn K mainGlobals "bool" = some none)
    (z_all : PySem.W.nsIn K mainGlobals "all" = some none)
    (z_min : PySem.W.nsIn K mainGlobals "min" = some none)
    (z_max : PySem.W.nsIn K mainGlobals "max" = some none)
    (z_abs : PySem.W.nsIn K mainGlobals "abs" = some none)
    (w_g : PySem.W.nsIn K mainGlobals "Wrong" = some (some (.ref CW)))
    (w_l : K.lookup CW = some (excClassObj nmW qW CW NW bsW [.ref CE, .type "ValueError", .type "Exception", .type "BaseException", .type "object"] true snW subW abW colW ddW w0 w1 w2 w3 w5 "ValueError.__new__"))
    (w_sa : PySem.W.findIn K (.ref CW) "__setattr__" = some (some (.builtin "object.__setattr__")))
    (w_ga : PySem.W.findIn K (.ref CW) "__getattribute__" = some (some (.builtin "BaseException.__getattribute__")))
    (w_gg : PySem.W.findIn K (.ref CW) "__getattr__" = some none)
    (w_no : PySem.W.findIn K (.ref CW) "place" = some none)
    (w_i : PySem.W.findIn K (.ref CW) "__init__" = some (some (.ref fI)))
    (w_ti : PySem.W.typeIn K (.ref fI) = some (.type "function"))
    (w_k : PySem.W.keepIn K (.ref CW) = true)
    (w_ex : PySem.W.subIn K (.ref CW) (.type "BaseException") = some true)
    (w_ty : PySem.W.typeIn K (.ref CW) = some (.type "type"))
    (w_hd : PySem.W.hasDictIn K CW = true)
    (w_su : PySem.W.ks_superIn K CW CW "__init__" = some (some (.builtin "ValueError.__init__")))
    (w_op : PySem.W.nsIn K PySem.cStatics "thirdparty.any" = some none)
    (w_ms : PySem.W.nsIn K mainGlobals "super" = some none)
    (w_top : (l.prog.main.scope.names.lookup ("super" : Str)).isSome = false)
    (w_self : PySem.W.mroIn K CW (.ref CW) = some true)
    (w_ve : PySem.W.subIn K (.ref CW) (.type "ValueError") = some true)
    (w_fn : K.lookup fI = some ⟨ocW, odW, .func (PySem.W.ksFn "__init__" qI (PySem.WrX.iA p1 p2) (PySem.WrX.iB tx q1 q2 q3 q4 q5 q6 q7 q8 q9 r1 r2 r3 r4) PySem.WrX.iS .none .none docW pmW anW (.ref cda) ctW cc), oslW⟩)
    (w_cd : PySem.W.codeIn K (.ref cda) qI = true)
    (w_cda : K.lookup cda = some ⟨ccl, cdd, .fields vsW, ccs⟩)
    (w_vs : vsW[2]? = some (.str file tf))
    (w_file : ((l.prog.main.file : Str) == file) = true)
    (w_cc : K.lookup cc = some ⟨clW, cldW, .cell (some (.ref CW)), cslW⟩)
    (w_len : tx.length ≤ 1000)
    (w_line : (q3.endLine == q8.line) = true)
    (s_g : PySem.W.nsIn K mainGlobals "Short" = some (some (.ref CS)))
    (s_k : PySem.W.keepIn K (.ref CS) = true)
    (s_q : PySem.W.excIn K CS [.type "ValueError", .type "Exception", .type "BaseException", .type "object"] "ValueError.__new__" = true)
    (s_ex : PySem.W.subIn K (.ref CS) (.type "BaseException") = some true)
    (s_ty : PySem.W.typeIn K (.ref CS) = some (.type "type"))
    (e_g : PySem.W.nsIn K mainGlobals "StoreError" = some (some (.ref CE)))
    (e_ex : PySem.W.subIn K (.ref CE) (.type "BaseException") = some true)
    (e_hd : PySem.W.hasDictIn K CE = true)
    (e_ty : PySem.W.typeIn K (.ref CE) = some (.type "type"))
    (e_w : PySem.W.subIn K (.ref CW) (.ref CE) = some true)
    (e_s : PySem.W.subIn K (.ref CS) (.ref CE) = some true)
    (sw : PySem.W.subIn K (.ref CS) (.ref CW) = some false)
    (nsw : (Value.ref CS == Value.ref CW) = false)
    (x_hn : PySem.W.specialIn K (.builtin "object.__class__") "__get__" = some (some (.builtin "getset_descriptor.__get__")))
    (x_ht : PySem.W.takesIn K (.builtin "object.__class__") = some true)
    (cw_hg : PySem.W.findIn K (.ref CW) "__getattribute__" = some (some (.builtin "BaseException.__getattribute__")))
    (cw_hk : PySem.W.findIn K (.ref CW) "__getattr__" = some none)
    (cw_hd : PySem.W.hasDictIn K CW = true)
    (cw_ha : PySem.W.findIn K (.ref CW) "__class__" = some (some (.builtin "object.__class__")))
    (cw_hm : PySem.W.mroIn K CW (.type "object") = some true)
    (cs_hg : PySem.W.findIn K (.ref CS) "__getattribute__" = some (some (.builtin "BaseException.__getattribute__")))
    (cs_hk : PySem.W.findIn K (.ref CS) "__getattr__" = some none)
    (cs_hd : PySem.W.hasDictIn K CS = true)
    (cs_ha : PySem.W.findIn K (.ref CS) "__class__" = some (some (.builtin "object.__class__")))
    (cs_hm : PySem.W.mroIn K CS (.type "object") = some true)
    (i_sg : PySem.W.nsIn K mainGlobals "SIGNS" = some (some (.str "abcdefghijklmnopqrstuvwxyzABCDEFGHIJKLMNOPQRSTUVWXYZ0123456789 .,:;-_/+*()=?!" t_sg)))
    : ∃ fd : FuncData, (∀ (s : Shared) (v : Value), BindsTo s fd ⟨[v], []⟩ [("script", v)]) ∧ ∀ base : Heap, K.In base → base.Ns mainGlobals mg → FnOk l.prog w K mg base CX0 7 fa fd ["script"] (spLaw K) := by
  have e := hfa.symm.trans (PySem.W.mg_of X G a32)
  cases e
  have D_is_between := dfn_mk (st := sis_between) (ps := pis_between) X G a1 l1 c1 k1 fun _ _ _ _ _ _ us hl => match us, hl with | [_, _, _], _ => rfl
  have D_is_octets := dfn_mk (st := sis_octets) (ps := pis_octets) X G a2 l2 c2 k2 fun _ _ _ _ _ _ us hl => match us, hl with | [_, _, _], _ => rfl
  have D_is_signs := dfn_mk (st := sis_signs) (ps := pis_signs) X G a3 l3 c3 k3 fun _ _ _ _ _ _ us hl => match us, hl with | [_, _, _], _ => rfl
  have D_is_value := dfn_mk (st := sis_value) (ps := pis_value) X G a4 l4 c4 k4 fun _ _ _ _ _ _ us hl => match us, hl with | [_], _ => rfl
  have D_count_octets := dfn_mk (st := scount_octets) (ps := pcount_octets) X G a5 l5 c5 k5 fun _ _ _ _ _ _ us hl => match us, hl with | [_], _ => rfl
  have D_text_octets := dfn_mk (st := stext_octets) (ps := ptext_octets) X G a6 l6 c6 k6 fun _ _ _ _ _ _ us hl => match us, hl with | [_], _ => rfl
  have D_value_octets := dfn_mk (st := svalue_octets) (ps := pvalue_octets) X G a7 l7 c7 k7 fun _ _ _ _ _ _ us hl => match us, hl with | [_], _ => rfl
  have D_count_from := dfn_mk (st := scount_from) (ps := pcount_from) X G a8 l8 c8 k8 fun _ _ _ _ _ _ us hl => match us, hl with | [_, _], _ => rfl
  have D_text_from := dfn_mk (st := stext_from) (ps := ptext_from) X G a9 l9 c9 k9 fun _ _ _ _ _ _ us hl => match us, hl with | [_, _], _ => rfl
  have D_integer_from := dfn_mk (st := sinteger_from) (ps := pinteger_from) X G a10 l10 c10 k10 fun _ _ _ _ _ _ us hl => match us, hl with | [_, _], _ => rfl
  have D_value_from := dfn_mk (st := svalue_from) (ps := pvalue_from) X G a11 l11 c11 k11 fun _ _ _ _ _ _ us hl => match us, hl with | [_, _], _ => rfl
  have D_check_reading := dfn_mk (st := scheck_reading) (ps := pcheck_reading) X G a12 l12 c12 k12 fun _ _ _ _ _ _ us hl => match us, hl with | [_, _], _ => rfl
  have D_write_text := dfn_mk (st := swrite_text) (ps := pwrite_text) X G a13 l13 c13 k13 fun _ _ _ _ _ _ us hl => match us, hl with | [_], _ => rfl
  have D_read_text := dfn_mk (st := sread_text) (ps := pread_text) X G a14 l14 c14 k14 fun _ _ _ _ _ _ us hl => match us, hl with | [_, _], _ => rfl
  have D_write_value := dfn_mk (st := swrite_value) (ps := pwrite_value) X G a15 l15 c15 k15 fun _ _ _ _ _ _ us hl => match us, hl with | [_], _ => rfl
  have D_read_value := dfn_mk (st := sread_value) (ps := pread_value) X G a16 l16 c16 k16 fun _ _ _ _ _ _ us hl => match us, hl with | [_, _], _ => rfl
  have D__law_taken := dfn_mk (st := s_law_taken) (ps := p_law_taken) X G a17 l17 c17 k17 fun _ _ _ _ _ _ us hl => match us, hl with | [_, _], _ => rfl
  have D__law_pick := dfn_mk (st := s_law_pick) (ps := p_law_pick) X G a18 l18 c18 k18 fun _ _ _ _ _ _ us hl => match us, hl with | [_, _], _ => rfl
  have D__law_signs_row := dfn_mk (st := s_law_signs_row) (ps := p_law_signs_row) X G a19 l19 c19 k19 fun _ _ _ _ _ _ us hl => match us, hl with | [], _ => rfl
  have D__law_some_text := dfn_mk (st := s_law_some_text) (ps := p_law_some_text) X G a20 l20 c20 k20 fun _ _ _ _ _ _ us hl => match us, hl with | [_, _], _ => rfl
  have D__law_signed := dfn_mk (st := s_law_signed) (ps := p_law_signed) X G a21 l21 c21 k21 fun _ _ _ _ _ _ us hl => match us, hl with | [_, _], _ => rfl
  have D__law_some_value := dfn_mk (st := s_law_some_value) (ps := p_law_some_value) X G a22 l22 c22 k22 fun _ _ _ _ _ _ us hl => match us, hl with | [_], _ => rfl
  have D__law_octet := dfn_mk (st := s_law_octet) (ps := p_law_octet) X G a23 l23 c23 k23 fun _ _ _ _ _ _ us hl => match us, hl with | [_], _ => rfl
  have D__law_some_octets := dfn_mk (st := s_law_some_octets) (ps := p_law_some_octets) X G a24 l24 c24 k24 fun _ _ _ _ _ _ us hl => match us, hl with | [_, _], _ => rfl
  have D__law_alike := dfn_mk (st := s_law_alike) (ps := p_law_alike) X G a25 l25 c25 k25 fun _ _ _ _ _ _ us hl => match us, hl with | [_, _], _ => rfl
  have D__law_groups := dfn_mk (st := s_law_groups) (ps := p_law_groups) X G a26 l26 c26 k26 fun _ _ _ _ _ _ us hl => match us, hl with | [_], _ => rfl
  have D__law_text_octets := dfn_mk (st := s_law_text_octets) (ps := p_law_text_octets) X G a27 l27 c27 k27 fun _ _ _ _ _ _ us hl => match us, hl with | [_], _ => rfl
  have D__law_value_octets := dfn_mk (st := s_law_value_octets) (ps := p_law_value_octets) X G a28 l28 c28 k28 fun _ _ _ _ _ _ us hl => match us, hl with | [_], _ => rfl
  have D__law_count_due := dfn_mk (st := s_law_count_due) (ps := p_law_count_due) X G a29 l29 c29 k29 fun _ _ _ _ _ _ us hl => match us, hl with | [_, _], _ => rfl
  have D__law_text_due := dfn_mk (st := s_law_text_due) (ps := p_law_text_due) X G a30 l30 c30 k30 fun _ _ _ _ _ _ us hl => match us, hl with | [_, _], _ => rfl
  have D__law_value_due := dfn_mk (st := s_law_value_due) (ps := p_law_value_due) X G a31 l31 c31 k31 fun _ _ _ _ _ _ us hl => match us, hl with | [_, _], _ => rfl
  have D_law := dfn_mk (st := slaw) (ps := plaw) X G a32 l32 c32 k32 fun _ _ _ _ _ _ us hl => match us, hl with | [_], _ => rfl
  have B : Bi mg := ⟨PySem.W.mg_none_of X G z_len, PySem.W.mg_none_of X G z_int, PySem.W.mg_none_of X G z_range, PySem.W.mg_none_of X G z_tuple, PySem.W.mg_none_of X G z_list, PySem.W.mg_none_of X G z_isinstance, PySem.W.mg_none_of X G z_zip, PySem.W.mg_none_of X G z_type, PySem.W.mg_none_of X G z_str, PySem.W.mg_none_of X G z_bool, PySem.W.mg_none_of X G z_all, PySem.W.mg_none_of X G z_min, PySem.W.mg_none_of X G z_max⟩
  have TW : PySem.WrX.WrTxt l.prog K mg "Wrong" CW fI := ⟨PySem.W.mg_of X G w_g, ⟨nmW, qW, NW, bsW, _, snW, subW, abW, colW, ddW, w0, w1, w2, w3, w5, w_l, by rfl⟩, w_sa, w_ga, w_gg, w_no, w_i, w_ti, w_k, w_ex, w_ty, w_hd, w_su, w_op, PySem.W.mg_none_of X G w_ms, w_top, w_self, w_ve, ⟨ocW, odW, qI, docW, pmW, anW, cda, cc, ctW, oslW, tx, p1, p2, q1, q2, q3, q4, q5, q6, q7, q8, q9, r1, r2, r3, r4, ccl, cdd, vsW, ccs, file, tf, clW, cldW, cslW, w_fn, w_cd, w_cda, w_vs, w_file, w_cc, w_len, w_line⟩⟩
  have TS : ShTxt K mg "Short" CS := ⟨PySem.W.mg_of X G s_g, s_k, s_q, s_ex, s_ty⟩
  have kSW : PySem.W.kitOne K (.ref CS) (.ref CW) = some false := by
    obtain ⟨cd, hc, _⟩ := PySem.W.any_some w_hd
    have e2 : ((PySem.W.clsIn K CW).isSome && PySem.W.typeIn K (.ref CW) == some (.type "type")) = true := by rw [hc, w_ty] <;> rfl
    unfold PySem.W.kitOne PySem.W.kitCls
    rw [if_neg (by rw [nsw]; exact Bool.false_ne_true)]
    show (if ((PySem.W.clsIn K CW).isSome && PySem.W.typeIn K (.ref CW) == some (.type "type")) = true then PySem.W.subIn K (.ref CS) (.ref CW) else none) = _
    rw [if_pos e2]
    exact sw
  have ER : ErT l.prog K mg CE CW CS fI := ⟨TW, TS, PySem.W.mg_of X G e_g, PySem.W.exm_ref e_ex e_hd e_ty e_w, PySem.W.exm_ref e_ex e_hd e_ty e_s, ⟨cw_hg, cw_hk, w_ex, cw_hd, cw_ha, x_hn, x_ht, cw_hm⟩, ⟨cs_hg, cs_hk, s_ex, cs_hd, cs_ha, x_hn, x_ht, cs_hm⟩, kSW⟩
  have MO : ∃ t, mg "MOST_OCTETS_OF_COUNT" = some (.int 9 t) := ⟨_, PySem.W.mg_of X G i_MOST_OCTETS_OF_COUNT⟩
  have T : Sx mg := ⟨B, ⟨_, PySem.W.mg_of X G i_sg⟩, ⟨_, PySem.W.mg_of X G i_MOST_SIGNS⟩, ⟨_, PySem.W.mg_of X G i_MOST_INTEGER⟩⟩
  exact ⟨PySem.W.fnOf "law" "law" (defArgs slaw) (defBody slaw) (defScope slaw) .none kV32 dc32 pm32 an32 cd32 ct32, fun s v => .of_eq rfl, fun base _ _ => ok_law D_law B T ER D__law_some_octets (ok_some D__law_some_octets B D__law_taken D__law_octet (ok_oct D__law_octet B D__law_taken D__law_pick)) D__law_some_text (ok_st D__law_some_text B D__law_taken (ok_taken D__law_taken B) D__law_pick (ok_pick D__law_pick B D__law_taken) D__law_signs_row) D__law_pick (ok_pick D__law_pick B D__law_taken) D__law_some_value (ok_sv D__law_some_value D__law_taken (ok_taken D__law_taken B) D__law_pick (ok_pick D__law_pick B D__law_taken) D__law_some_text (ok_st D__law_some_text B D__law_taken (ok_taken D__law_taken B) D__law_pick (ok_pick D__law_pick B D__law_taken) D__law_signs_row) D__law_signed (ok_sgd D__law_signed D__law_taken (ok_taken D__law_taken B))) D_write_text (ok_wt D_write_text T D_is_signs D_text_octets (ok_to D_text_octets T D_count_octets (ok_co D_count_octets B))) D_write_value (ok_wv D_write_value D_is_value (ok_iv D_is_value T D_is_between D_is_signs) D_value_octets (ok_vo D_value_octets T D_text_octets (ok_to D_text_octets T D_count_octets (ok_co D_count_octets B)) D_count_octets (ok_co D_count_octets B))) D_read_text (ok_rt D_read_text D_check_reading (ok_cr D_check_reading B D_is_between D_is_octets) D_text_from (ok_tf D_text_from T ER.w ER.s D_count_from (ok_cf D_count_from B MO ER.w ER.s))) D_read_value (ok_rv D_read_value D_check_reading (ok_cr D_check_reading B D_is_between D_is_octets) D_value_from (ok_vf D_value_from B ER.w ER.s D_text_from (ok_tf D_text_from T ER.w ER.s D_count_from (ok_cf D_count_from B MO ER.w ER.s)) D_integer_from (ok_if D_integer_from T ER.w D_count_from (ok_cf D_count_from B MO ER.w ER.s)))) D__law_signs_row (ok_row D__law_signs_row) D__law_alike (ok_alike D__law_alike B 2 (by decide)) D__law_text_octets (ok_lto D__law_text_octets B D__law_groups (ok_lg D__law_groups B) D__law_signs_row) D__law_value_octets (ok_lvo D__law_value_octets B D__law_text_octets (ok_lto D__law_text_octets B D__law_groups (ok_lg D__law_groups B) D__law_signs_row) D__law_groups (ok_lg D__law_groups B)) D__law_groups (ok_lg D__law_groups B) D__law_text_due (ok_td D__law_text_due B D__law_count_due (ok_due D__law_count_due B) D__law_signs_row) D__law_value_due (ok_vd D__law_value_due B (PySem.W.mg_none_of X G z_abs) D__law_count_due (ok_due D__law_count_due B) D__law_text_due (ok_td D__law_text_due B D__law_count_due (ok_due D__law_count_due B) D__law_signs_row))⟩
end K01
open PySem PySem.W PyProof.Rows
set_option maxRecDepth 100000 in
set_option maxHeartbeats 0 in
theorem PySem.Challenge.cw_meetstores_k01_whole_texts_and_values_holds : PySem.Challenge.rw_meetstores_k01_whole_texts_and_values.Holds := by
  w_on; o_law; k_head; (case hw => w_witness2)
  k_fill
  refine L2.walk_of (l := PySem.Challenge.rw_meetstores_k01_whole_texts_and_values) (n := 63) (k := 7) (x := "script") (CX := fun _ => L2.CX0) (sp := fun w => K01.spLaw _) rfl (by decide) rfl ⟨rfl, by decide, by decide⟩ (fun w h Y => PySem.W.kIn_of Y) ?F (fun _ _ a ns hl _ hS => ⟨a, ns, rfl, hS, hl, fun _ => rfl⟩) (fun _ _ _ _ _ h => h)
  case F =>
    intro w mg fa h KX G hmg
    refine' K01.all_mk KX G hmg ?a1 ?l1 ?c1 ?k1 ?a2 ?l2 ?c2 ?k2 ?a3 ?l3 ?c3 ?k3 ?a4 ?l4 ?c4 ?k4 ?a5 ?l5 ?c5 ?k5 ?a6 ?l6 ?c6 ?k6 ?a7 ?l7 ?c7 ?k7 ?a8 ?l8 ?c8 ?k8 ?a9 ?l9 ?c9 ?k9 ?a10 ?l10 ?c10 ?k10 ?a11 ?l11 ?c11 ?k11 ?a12 ?l12 ?c12 ?k12 ?a13 ?l13 ?c13 ?k13 ?a14 ?l14 ?c14 ?k14 ?a15 ?l15 ?c15 ?k15 ?a16 ?l16 ?c16 ?k16 ?a17 ?l17 ?c17 ?k17 ?a18 ?l18 ?c18 ?k18 ?a19 ?l19 ?c19 ?k19 ?a20 ?l20 ?c20 ?k20 ?a21 ?l21 ?c21 ?k21 ?a22 ?l22 ?c22 ?k22 ?a23 ?l23 ?c23 ?k23 ?a24 ?l24 ?c24 ?k24 ?a25 ?l25 ?c25 ?k25 ?a26 ?l26 ?c26 ?k26 ?a27 ?l27 ?c27 ?k27 ?a28 ?l28 ?c28 ?k28 ?a29 ?l29 ?c29 ?k29 ?a30 ?l30 ?c30 ?k30 ?a31 ?l31 ?c31 ?k31 ?a32 ?l32 ?c32 ?k32 ?i_MOST_OCTETS_OF_COUNT ?i_MOST_SIGNS ?i_MOST_INTEGER ?z_len ?z_int ?z_range ?z_tuple ?z_list ?z_isinstance ?z_zip ?z_type ?z_str ?z_bool ?z_all ?z_min ?z_max ?z_abs ?w_g ?w_l ?w_sa ?w_ga ?w_gg ?w_no ?w_i ?w_ti ?w_k ?w_ex ?w_ty ?w_hd ?w_su ?w_op ?w_ms ?w_top ?w_self ?w_ve ?w_fn ?w_cd ?w_cda ?w_vs ?w_file ?w_cc ?w_len ?w_line ?s_g ?s_k ?s_q ?s_ex ?s_ty ?e_g ?e_ex ?e_hd ?e_ty ?e_w ?e_s ?sw ?nsw ?x_hn ?x_ht ?cw_hg ?cw_hk ?cw_hd ?cw_ha ?cw_hm ?cs_hg ?cs_hk ?cs_hd ?cs_ha ?cs_hm ?i_sg
    (case a1 => k_is)
    (case l1 => k_is)
    (case c1 => k_is)
    (case k1 => k_is)
    (case a2 => k_is)
    (case l2 => k_is)
    (case c2 => k_is)
    (case k2 => k_is)
    (case a3 => k_is)
    (case l3 => k_is)
    (case c3 => k_is)
    (case k3 => k_is)
    (case a4 => k_is)
    (case l4 => k_is)
    (case c4 => k_is)
    (case k4 => k_is)
    (case a5 => k_is)
    (case l5 => k_is)
    (case c5 => k_is)
    (case k5 => k_is)
    (case a6 => k_is)
    (case l6 => k_is)
    (case c6 => k_is)
    (case k6 => k_is)
    (case a7 => k_is)
    (case l7 => k_is)
    (case c7 => k_is)
    (case k7 => k_is)
    (case a8 => k_is)
    (case l8 => k_is)
    (case c8 => k_is)
    (case k8 => k_is)
    (case a9 => k_is)
    (case l9 => k_is)
    (case c9 => k_is)
    (case k9 => k_is)
    (case a10 => k_is)
    (case l10 => k_is)
    (case c10 => k_is)
    (case k10 => k_is)
    (case a11 => k_is)
    (case l11 => k_is)
    (case c11 => k_is)
    (case k11 => k_is)
    (case a12 => k_is)
    (case l12 => k_is)
    (case c12 => k_is)
    (case k12 => k_is)
    (case a13 => k_is)
    (case l13 => k_is)
    (case c13 => k_is)
    (case k13 => k_is)
    (case a14 => k_is)
    (case l14 => k_is)
    (case c14 => k_is)
    (case k14 => k_is)
    (case a15 => k_is)
    (case l15 => k_is)
    (case c15 => k_is)
    (case k15 => k_is)
    (case a16 => k_is)
    (case l16 => k_is)
    (case c16 => k_is)
    (case k16 => k_is)
    (case a17 => k_is)
    (case l17 => k_is)
    (case c17 => k_is)
    (case k17 => k_is)
    (case a18 => k_is)
    (case l18 => k_is)
    (case c18 => k_is)
    (case k18 => k_is)
    (case a19 => k_is)
    (case l19 => k_is)
    (case c19 => k_is)
    (case k19 => k_is)
    (case a20 => k_is)
    (case l20 => k_is)
    (case c20 => k_is)
    (case k20 => k_is)
    (case a21 => k_is)
    (case l21 => k_is)
    (case c21 => k_is)
    (case k21 => k_is)
    (case a22 => k_is)
    (case l22 => k_is)
    (case c22 => k_is)
    (case k22 => k_is)
    (case a23 => k_is)
    (case l23 => k_is)
    (case c23 => k_is)
    (case k23 => k_is)
    (case a24 => k_is)
    (case l24 => k_is)
    (case c24 => k_is)
    (case k24 => k_is)
    (case a25 => k_is)
    (case l25 => k_is)
    (case c25 => k_is)
    (case k25 => k_is)
    (case a26 => k_is)
    (case l26 => k_is)
    (case c26 => k_is)
    (case k26 => k_is)
    (case a27 => k_is)
    (case l27 => k_is)
    (case c27 => k_is)
    (case k27 => k_is)
    (case a28 => k_is)
    (case l28 => k_is)
    (case c28 => k_is)
    (case k28 => k_is)
    (case a29 => k_is)
    (case l29 => k_is)
    (case c29 => k_is)
    (case k29 => k_is)
    (case a30 => k_is)
    (case l30 => k_is)
    (case c30 => k_is)
    (case k30 => k_is)
    (case a31 => k_is)
    (case l31 => k_is)
    (case c31 => k_is)
    (case k31 => k_is)
    (case a32 => k_is)
    (case l32 => k_is)
    (case c32 => k_is)
    (case k32 => k_is)
    (case i_MOST_OCTETS_OF_COUNT => k_is)
    (case i_MOST_SIGNS => k_is)
    (case i_MOST_INTEGER => k_is)
    (case z_len => k_is)
    (case z_int => k_is)
    (case z_range => k_is)
    (case z_tuple => k_is)
    (case z_list => k_is)
    (case z_isinstance => k_is)
    (case z_zip => k_is)
    (case z_type => k_is)
    (case z_str => k_is)
    (case z_bool => k_is)
    (case z_all => k_is)
    (case z_min => k_is)
    (case z_max => k_is)
    (case z_abs => k_is)
    (case w_g => k_is)
    (case w_l => k_is)
    (case w_sa => k_is)
    (case w_ga => k_is)
    (case w_gg => k_is)
    (case w_no => k_is)
    (case w_i => k_is)
    (case w_ti => k_is)
    (case w_k => k_is)
    (case w_ex => k_is)
    (case w_ty => k_is)
    (case w_hd => k_is)
    (case w_su => ks_is)
    (case w_op => k_is)
    (case w_ms => k_is)
    (case w_top => first | rfl | decide +kernel)
    (case w_self => k_is)
    (case w_ve => k_is)
    (case w_fn => k_is)
    (case w_cd => k_is)
    (case w_cda => k_is)
    (case w_vs => rfl)
    (case w_file => first | rfl | decide +kernel)
    (case w_cc => k_is)
    (case w_len => first | decide | decide +kernel)
    (case w_line => first | rfl | decide)
    (case s_g => k_is)
    (case s_k => k_is)
    (case s_q => k_exc)
    (case s_ex => k_is)
    (case s_ty => k_is)
    (case e_g => k_is)
    (case e_ex => k_is)
    (case e_hd => k_is)
    (case e_ty => k_is)
    (case e_w => k_is)
    (case e_s => k_is)
    (case sw => k_is)
    (case nsw => first | rfl | decide)
    (case x_hn => k_is)
    (case x_ht => k_is)
    (case cw_hg => k_is)
    (case cw_hk => k_is)
    (case cw_hd => k_is)
    (case cw_ha => k_is)
    (case cw_hm => k_is)
    (case cs_hg => k_is)
    (case cs_hk => k_is)
    (case cs_hd => k_is)
    (case cs_ha => k_is)
    (case cs_hm => k_is)
    (case i_sg => k_is)
