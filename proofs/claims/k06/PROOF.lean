import PyProof.Rows.All
import Wide.All
import OpenK.AllK
import Wide.FinOn
import HandS.ForMost
import HandS.IsInst
import HandS.Zip
import HandS.TupAny
import HandS.More
import HandS.Walk
import HandS.Conv
import HandS.ExcOwn
import HandS.ExcIs
import HandS.ExcField
import HandS.FStr
import KE.KExcSuper
import KE.KExcIs
import HandS.TryOnly
import HandS.TupMul
import KE.KTryMore
import HandS.List
import KE.GoesEnum
import KE.GoesMore
import HandS.Iter
import HandS.WordsExc
import HandS.Wide
import HandS.Rev
import HandS.Style
import HandS.SetFor
import PySem.Challenge.RW_meetstores_k06_whole_polynomials
set_option Elab.async false
set_option linter.all false
set_option maxRecDepth 100000
set_option maxHeartbeats 4000000
/-! The prime 2^61 - 1: 37 has the order P - 1, so every residue but 0 is one of its powers; so P is a field, and a^(P-1) = 1. -/
namespace Pr
def P : Nat := 2305843009213693951
def pm : Nat → Nat → Nat → Nat
  | 0, _, _ => 1
  | f + 1, b, n => if n % 2 = 1 then pm f (b * b % P) (n / 2) * b % P else pm f (b * b % P) (n / 2)
theorem pow_mod' (b n : Nat) : (b % P) ^ n % P = b ^ n % P := (Nat.pow_mod b n P).symm
theorem pm_eq : ∀ (f b n : Nat), n < 2 ^ f → pm f b n % P = b ^ n % P := by
  intro f
  induction f with
  | zero => intro b n h; obtain rfl : n = 0 := by omega
            rfl
  | succ f ih =>
    intro b n h
    have h2 : n / 2 < 2 ^ f := by rw [Nat.pow_succ] at h; omega
    have e := ih (b * b % P) (n / 2) h2
    rw [pow_mod', show b * b = b ^ 2 from (Nat.pow_two b).symm, ← Nat.pow_mul] at e
    have hn : 2 * (n / 2) + n % 2 = n := Nat.div_add_mod n 2
    show (if n % 2 = 1 then pm f (b * b % P) (n / 2) * b % P else pm f (b * b % P) (n / 2)) % P = _
    rw [show b * b = b ^ 2 from (Nat.pow_two b).symm]
    by_cases o : n % 2 = 1
    · rw [if_pos o, Nat.mod_mod, Nat.mul_mod, e, ← Nat.mul_mod, ← Nat.pow_succ]
      rw [o] at hn
      rw [← hn]
      congr 2
      omega
    · rw [if_neg o, e]
      congr 2
      omega
def qs : List Nat := [2, 3, 5, 7, 11, 13, 31, 41, 61, 151, 331, 1321]
theorem g_all : 37 ^ (P - 1) % P = 1 := by
  rw [← pm_eq 61 37 (P - 1) (by decide)]
  decide +kernel
theorem g_not : ∀ q, q ∈ qs → 37 ^ ((P - 1) / q) % P ≠ 1 := by
  intro q hq
  rw [← pm_eq 61 37 ((P - 1) / q) (Nat.lt_of_le_of_lt (Nat.div_le_self _ _) (by decide))]
  have : ∀ q, q ∈ qs → pm 61 37 ((P - 1) / q) % P ≠ 1 := by decide +kernel
  exact this q hq
theorem q_prime : ∀ q, q ∈ qs → ∀ d : Nat, d < 1322 → d ∣ q → d = 1 ∨ d = q := by
  have : ∀ q, q ∈ qs → ∀ d : Fin 1322, q % d.val = 0 → d.val = 1 ∨ d.val = q := by decide +kernel
  intro q hq d hd hdq
  exact this q hq ⟨d, hd⟩ (Nat.mod_eq_zero_of_dvd hdq)
theorem q_small : ∀ q, q ∈ qs → 0 < q ∧ q < 1322 ∧ (P - 1) % q = 0 := by decide +kernel
/-- a divisor of P - 1 other than itself divides (P - 1) / q for one of the primes -/
theorem part {e : Nat} (he : e ∣ P - 1) (hn : e ≠ P - 1) : ∃ q, q ∈ qs ∧ e ∣ (P - 1) / q := by
  obtain ⟨k, hk⟩ := he
  have h1 : k ≠ 1 := by rintro rfl; omega
  have hx : ∃ q, q ∈ qs ∧ Nat.gcd k q ≠ 1 := by
    refine Classical.byContradiction fun hno => ?_
    have hc : ∀ q, q ∈ qs → Nat.Coprime k q := fun q hq => Classical.byContradiction fun h => hno ⟨q, hq, h⟩
    have c2 := hc 2 (by decide)
    have c3 := hc 3 (by decide)
    have c5 := hc 5 (by decide)
    have hN : Nat.Coprime k (2 * 3 * 3 * 5 * 5 * 7 * 11 * 13 * 31 * 41 * 61 * 151 * 331 * 1321) :=
      ((((((((((((c2.mul_right c3).mul_right c3).mul_right c5).mul_right c5).mul_right (hc 7 (by decide))).mul_right (hc 11 (by decide))).mul_right (hc 13 (by decide))).mul_right (hc 31 (by decide))).mul_right (hc 41 (by decide))).mul_right (hc 61 (by decide))).mul_right (hc 151 (by decide))).mul_right (hc 331 (by decide))).mul_right (hc 1321 (by decide))
    have hd : k ∣ P - 1 := ⟨e, by rw [hk, Nat.mul_comm]⟩
    have : Nat.gcd k (P - 1) = k := Nat.gcd_eq_left hd
    exact h1 (this.symm.trans hN)
  obtain ⟨q, hq, hg⟩ := hx
  obtain ⟨q0, ql, qd⟩ := q_small q hq
  have hgq : Nat.gcd k q ∣ q := Nat.gcd_dvd_right k q
  have := q_prime q hq _ (Nat.lt_of_le_of_lt (Nat.le_of_dvd q0 hgq) ql) hgq
  have hqk : q ∣ k := by
    rcases this with h | h
    · exact absurd h hg
    · rw [← h]; exact Nat.gcd_dvd_left k q
  obtain ⟨m, rfl⟩ := hqk
  refine ⟨q, hq, m, ?_⟩
  rw [hk, Nat.mul_left_comm, Nat.mul_div_cancel_left _ q0]
/-- no n + 1 numbers below n are all unlike -/
theorem pigeon : ∀ (n : Nat) (f : Nat → Nat), (∀ i, i < n + 1 → f i < n) → (∀ i j, i < n + 1 → j < n + 1 → f i = f j → i = j) → False := by
  intro n
  induction n with
  | zero => intro f h _; exact absurd (h 0 (by omega)) (by omega)
  | succ n ih =>
    intro f h inj
    refine ih (fun i => if f i = n then f (n + 1) else f i) (fun i hi => ?_) (fun i j hi hj e => ?_)
    · have a := h i (by omega)
      have b := h (n + 1) (by omega)
      have c := inj i (n + 1) (by omega) (by omega)
      show (if f i = n then f (n + 1) else f i) < n
      split <;> omega
    · have a := inj i j (by omega) (by omega)
      have b := inj i (n + 1) (by omega) (by omega)
      have c := inj j (n + 1) (by omega) (by omega)
      have e' : (if f i = n then f (n + 1) else f i) = (if f j = n then f (n + 1) else f j) := e
      split at e' <;> split at e' <;> omega
theorem P_pos : 0 < P := by decide
theorem one_mod : 1 % P = 1 := rfl
theorem pow_one_of {b a : Nat} (h : b ^ a % P = 1) (k : Nat) : b ^ (a * k) % P = 1 := by
  rw [Nat.pow_mul, Nat.pow_mod, h, Nat.one_pow]; rfl
theorem ord_mod {b a c : Nat} (ha : b ^ a % P = 1) (hc : b ^ c % P = 1) : b ^ (c % a) % P = 1 := by
  have h : a * (c / a) + c % a = c := Nat.div_add_mod c a
  have e : b ^ c % P = b ^ (c % a) % P := by
    conv => lhs; rw [← h, Nat.pow_add, Nat.mul_mod, pow_one_of ha, Nat.one_mul, Nat.mod_mod]
  exact e.symm.trans hc
theorem ord_gcd (b m n : Nat) : b ^ m % P = 1 → b ^ n % P = 1 → b ^ (Nat.gcd m n) % P = 1 := by
  refine Nat.gcd.induction (P := fun m n => b ^ m % P = 1 → b ^ n % P = 1 → b ^ (Nat.gcd m n) % P = 1) m n (fun n _ h => ?_) (fun m n _ ih hm hn => ?_)
  · rw [Nat.gcd_zero_left]; exact h
  · rw [Nat.gcd_rec]; exact ih (ord_mod hm hn) hm
theorem g_ne (d : Nat) (h0 : 0 < d) (hd : d < P - 1) : 37 ^ d % P ≠ 1 := by
  intro h
  have hg := ord_gcd 37 d (P - 1) h g_all
  have hdv : Nat.gcd d (P - 1) ∣ P - 1 := Nat.gcd_dvd_right _ _
  have hle : Nat.gcd d (P - 1) ≤ d := Nat.le_of_dvd h0 (Nat.gcd_dvd_left _ _)
  obtain ⟨q, hq, k, hk⟩ := part hdv (by omega)
  exact g_not q hq (by rw [hk]; exact pow_one_of hg k)
theorem g_inj {i j : Nat} (hij : i < j) (hj : j < P - 1) : 37 ^ i % P ≠ 37 ^ j % P := by
  intro h
  have e : 37 ^ (P - 1 - i) * 37 ^ i % P = 37 ^ (P - 1 - i) * 37 ^ j % P := by
    rw [Nat.mul_mod, h, ← Nat.mul_mod]
  rw [← Nat.pow_add, ← Nat.pow_add, show P - 1 - i + i = P - 1 by omega, g_all, show P - 1 - i + j = (P - 1) + (j - i) by omega, Nat.pow_add, Nat.mul_mod, g_all, Nat.one_mul, Nat.mod_mod] at e
  exact g_ne (j - i) (by omega) (by omega) e.symm
theorem g_pos {i : Nat} (hi : i < P - 1) : 0 < 37 ^ i % P := by
  refine Nat.pos_of_ne_zero fun h => ?_
  have e : 37 ^ i * 37 ^ (P - 1 - i) % P = 0 := by rw [Nat.mul_mod, h, Nat.zero_mul]; rfl
  rw [← Nat.pow_add, show i + (P - 1 - i) = P - 1 by omega, g_all] at e
  cases e
theorem onto {x : Nat} (h0 : 0 < x) (hx : x < P) : ∃ i, i < P - 1 ∧ 37 ^ i % P = x := by
  refine Classical.byContradiction fun hno => ?_
  have hn : ∀ i, i < P - 1 → 37 ^ i % P ≠ x := fun i hi e => hno ⟨i, hi, e⟩
  have lt : ∀ i, 37 ^ i % P < P := fun i => Nat.mod_lt _ P_pos
  have inj : ∀ i j, i < P - 1 → j < P - 1 → 37 ^ i % P = 37 ^ j % P → i = j := fun i j hi hj e => by
    rcases Nat.lt_trichotomy i j with h | h | h
    · exact absurd e (g_inj h hj)
    · exact h
    · exact absurd e.symm (g_inj h hi)
  have pos : ∀ i, i < P - 1 → 0 < 37 ^ i % P := fun i hi => g_pos hi
  have hP : P - 1 + 1 = P := rfl
  generalize (P - 1) = N at *
  generalize P = M at *
  refine pigeon N (fun i => if i = N then x - 1 else 37 ^ i % M - 1) (fun i hi => ?_) (fun i j hi hj e => ?_)
  · show (if i = N then x - 1 else 37 ^ i % M - 1) < N
    have a := lt i
    split
    · omega
    · have b := pos i (by omega)
      omega
  · have e' : (if i = N then x - 1 else 37 ^ i % M - 1) = (if j = N then x - 1 else 37 ^ j % M - 1) := e
    split at e' <;> split at e'
    · omega
    · have a := hn j (by omega)
      have b := pos j (by omega)
      omega
    · have a := hn i (by omega)
      have b := pos i (by omega)
      omega
    · have a := pos i (by omega)
      have b := pos j (by omega)
      exact inj i j (by omega) (by omega) (by omega)
/-- Fermat's -/
theorem fermat {x : Nat} (h : x % P ≠ 0) : x ^ (P - 1) % P = 1 := by
  obtain ⟨i, _, e⟩ := onto (Nat.pos_of_ne_zero h) (Nat.mod_lt _ P_pos)
  rw [Nat.pow_mod, ← e, ← Nat.pow_mod, ← Nat.pow_mul, Nat.mul_comm]
  exact pow_one_of g_all i
theorem mul_inv {x : Nat} (h : x % P ≠ 0) : x * x ^ (P - 2) % P = 1 := by
  rw [Nat.mul_comm, ← Nat.pow_succ]
  exact fermat h
theorem mul_zero {a b : Nat} (h : a * b % P = 0) : a % P = 0 ∨ b % P = 0 := by
  refine Classical.byContradiction fun hn => ?_
  have ha : a % P ≠ 0 := fun e => hn (.inl e)
  have e : b * a * a ^ (P - 2) % P = b % P := by
    rw [Nat.mul_assoc, Nat.mul_mod, mul_inv ha, Nat.mul_one, Nat.mod_mod]
  rw [Nat.mul_mod, Nat.mul_comm b a, h, Nat.zero_mul] at e
  exact hn (.inr e.symm)
end Pr
/-! Polynomials modulo 2^61 - 1 as functions of the power; ideals; the greatest common divisor of two products of linear factors. -/
namespace Po
open Lean.Grind
class Fd (F : Type) extends Lean.Grind.CommRing F where
  inv_ex : ∀ x : F, x ≠ 0 → ∃ y : F, y * x = 1
  ne : (1 : F) ≠ 0
section
variable {F : Type} [Fd F]
open Classical
theorem inv_ex (x : F) (h : x ≠ 0) : ∃ y : F, y * x = 1 := Fd.inv_ex x h
theorem mul_eq_zero {a b : F} (h : a * b = 0) : a = 0 ∨ b = 0 := by
  by_cases ha : a = 0
  · exact .inl ha
  · obtain ⟨y, hy⟩ := inv_ex a ha
    refine .inr ?_
    have : y * (a * b) = b := by rw [← Semiring.mul_assoc, hy, Semiring.one_mul]
    rw [h, Semiring.mul_zero] at this
    exact this.symm
theorem sub_ne {a b : F} (h : a ≠ b) : b - a ≠ 0 := fun e => h (by grind)
abbrev Q (F : Type) := Nat → F
def sh (f : Q F) : Q F
  | 0 => 0
  | k + 1 => f k
def L (r : F) (f : Q F) : Q F := fun k => sh f k - r * f k
def nil : Q F := fun _ => 0
def add (f g : Q F) : Q F := fun k => f k + g k
def smul (c : F) (f : Q F) : Q F := fun k => c * f k
def one : Q F := fun k => if k = 0 then 1 else 0
inductive I (S : Q F → Prop) : Q F → Prop
  | base {f} : S f → I S f
  | zero : I S nil
  | add {f g} : I S f → I S g → I S (add f g)
  | smul (c) {f} : I S f → I S (smul c f)
  | sh {f} : I S f → I S (sh f)
theorem I.of {S S' : Q F → Prop} (h : ∀ f, S f → I S' f) {g : Q F} (hg : I S g) : I S' g := by
  induction hg with
  | base h1 => exact h _ h1
  | zero => exact .zero
  | add _ _ a b => exact .add a b
  | smul c _ a => exact .smul c a
  | sh _ a => exact .sh a
theorem I.sub {S : Q F → Prop} {f g : Q F} (hf : I S f) (hg : I S g) : I S (fun k => f k - g k) := by
  have h := I.add hf (I.smul (-1) hg)
  have e : Po.add f (Po.smul (-1) g) = fun k => f k - g k := by
    funext k
    show f k + -1 * g k = f k - g k
    grind
  rw [e] at h
  exact h
theorem I.L {S : Q F → Prop} {f : Q F} (r : F) (hf : I S f) : I S (L r f) := I.sub (I.sh hf) (I.smul r hf)
theorem I.nil {S : Q F → Prop} {f : Q F} (h : ∀ k, f k = 0) : I S f := by
  have : f = Po.nil := funext h
  rw [this]
  exact .zero
theorem I.cancel {S : Q F → Prop} {f : Q F} {c : F} (hc : c ≠ 0) (h : I S (Po.smul c f)) : I S f := by
  obtain ⟨y, hy⟩ := inv_ex c hc
  have h2 := I.smul y h
  have e : Po.smul y (Po.smul c f) = f := by
    funext k
    show y * (c * f k) = f k
    rw [← Semiring.mul_assoc, hy, Semiring.one_mul]
  rw [e] at h2
  exact h2
theorem sh_add (f g : Q F) : sh (add f g) = add (sh f) (sh g) := by
  funext k
  cases k with
  | zero => show (0 : F) = 0 + 0; grind
  | succ k => rfl
theorem sh_smul (c : F) (f : Q F) : sh (smul c f) = smul c (sh f) := by
  funext k
  cases k with
  | zero => show (0 : F) = c * 0; grind
  | succ k => rfl
theorem sh_L (r : F) (f : Q F) : sh (L r f) = L r (sh f) := by
  funext k
  cases k with
  | zero => show (0 : F) = 0 - r * 0; grind
  | succ k => rfl
theorem L_add (r : F) (f g : Q F) : L r (add f g) = add (L r f) (L r g) := by
  funext k
  show sh (add f g) k - r * (f k + g k) = (sh f k - r * f k) + (sh g k - r * g k)
  rw [sh_add]
  show (sh f k + sh g k) - r * (f k + g k) = _
  grind
theorem L_smul (r c : F) (f : Q F) : L r (smul c f) = smul c (L r f) := by
  funext k
  show sh (smul c f) k - r * (c * f k) = c * (sh f k - r * f k)
  rw [sh_smul]
  show c * sh f k - r * (c * f k) = _
  grind
theorem L_nil (r : F) : L r nil = nil := by
  funext k
  show sh nil k - r * 0 = 0
  have : sh (nil : Q F) k = 0 := by cases k <;> rfl
  rw [this]
  grind
theorem L_L (a b : F) (f : Q F) : L a (L b f) = L b (L a f) := by
  funext k
  show sh (L b f) k - a * (sh f k - b * f k) = sh (L a f) k - b * (sh f k - a * f k)
  rw [sh_L, sh_L]
  show (sh (sh f) k - b * sh f k) - a * (sh f k - b * f k) = (sh (sh f) k - a * sh f k) - b * (sh f k - a * f k)
  grind
theorem I.map {S S' : Q F → Prop} (r : F) (h : ∀ f, S f → I S' (Po.L r f)) {g : Q F} (hg : I S g) : I S' (Po.L r g) := by
  induction hg with
  | base h1 => exact h _ h1
  | zero => rw [L_nil]; exact .zero
  | add _ _ a b => rw [L_add]; exact .add a b
  | smul c _ a => rw [L_smul]; exact .smul c a
  | sh _ a => rw [← sh_L]; exact .sh a
/-- all linear factors of some roots -/
def Ls : List F → Q F → Q F
  | [], f => f
  | r :: rs, f => L r (Ls rs f)
def prod (rs : List F) : Q F := Ls rs one
theorem I.Ls {S : Q F → Prop} {f : Q F} (rs : List F) (hf : I S f) : I S (Ls rs f) := by
  induction rs with
  | nil => exact hf
  | cons r rs ih => exact ih.L r
theorem Ls_app (a b : List F) (f : Q F) : Ls (a ++ b) f = Ls a (Ls b f) := by
  induction a with
  | nil => rfl
  | cons r a ih => show L r (Ls (a ++ b) f) = _; rw [ih]; rfl
theorem Ls_L (r : F) (rs : List F) (f : Q F) : Ls rs (L r f) = L r (Ls rs f) := by
  induction rs with
  | nil => rfl
  | cons s rs ih => show L s (Ls rs (L r f)) = L r (L s (Ls rs f)); rw [ih, L_L]
theorem Ls_Ls (a b : List F) (f : Q F) : Ls a (Ls b f) = Ls b (Ls a f) := by
  induction b with
  | nil => rfl
  | cons s b ih => show Ls a (L s (Ls b f)) = L s (Ls b (Ls a f)); rw [Ls_L, ih]
theorem Ls_perm {a b : List F} (h : a.Perm b) (f : Q F) : Ls a f = Ls b f := by
  induction h with
  | nil => rfl
  | cons x _ ih => show L x _ = L x _; rw [ih]
  | swap x y l => exact L_L y x _
  | trans _ _ h1 h2 => exact h1.trans h2
theorem I.mapLs {S S' : Q F → Prop} (rs : List F) (h : ∀ f, S f → I S' (Po.Ls rs f)) {g : Q F} (hg : I S g) : I S' (Po.Ls rs g) := by
  induction rs generalizing S S' g with
  | nil => exact hg.of h
  | cons r rs ih =>
    have h1 : I (fun f => ∃ f0, S f0 ∧ f = Po.Ls rs f0) (Po.Ls rs g) := ih (fun f hf => .base ⟨f, hf, rfl⟩) hg
    exact h1.map r fun f ⟨f0, hf0, e⟩ => by rw [e]; exact h f0 hf0
def Two (A B : Q F) : Q F → Prop := fun f => f = A ∨ f = B
def One (A : Q F) : Q F → Prop := fun f => f = A
/-- 1 out of a product and one linear factor of another root -/
theorem cop1 (b : F) (as : List F) (h : ∀ a, a ∈ as → a ≠ b) : I (Two (prod as) (L b one)) one := by
  induction as with
  | nil => exact .base (.inl rfl)
  | cons a as ih =>
    have hb : I (Two (prod (a :: as)) (L b one)) (L b (prod as)) := by
      have : I (One one) (prod as) := I.Ls as (.base rfl)
      exact this.map b fun f e => by rw [e]; exact .base (.inr rfl)
    have hd : I (Two (prod (a :: as)) (L b one)) (smul (b - a) (prod as)) := by
      have h1 := I.sub (I.base (S := Two (prod (a :: as)) (L b one)) (.inl rfl)) hb
      have e : (fun k => prod (a :: as) k - L b (prod as) k) = smul (b - a) (prod as) := by
        funext k
        show (sh (prod as) k - a * prod as k) - (sh (prod as) k - b * prod as k) = (b - a) * prod as k
        grind
      rw [e] at h1
      exact h1
    have hf := I.cancel (sub_ne (h a (by simp))) hd
    exact (ih fun x hx => h x (by simp [hx])).of fun f hf' => by
      rcases hf' with e | e
      · rw [e]; exact hf
      · rw [e]; exact .base (.inr rfl)
/-- 1 out of two products without a common root -/
theorem cop (as bs : List F) (h : ∀ a, a ∈ as → ∀ b, b ∈ bs → a ≠ b) : I (Two (prod as) (prod bs)) one := by
  induction bs with
  | nil => exact .base (.inr rfl)
  | cons b bs ih =>
    have h1 := cop1 b as fun a ha => h a ha b (by simp)
    have h2 : I (Two (prod as) (prod (b :: bs))) (prod bs) := h1.mapLs bs fun f hf => by
      rcases hf with e | e
      · rw [e]; exact I.Ls bs (.base (.inl rfl))
      · rw [e, Ls_L]; exact .base (.inr rfl)
    exact (ih fun a ha c hc => h a ha c (by simp [hc])).of fun f hf => by
      rcases hf with e | e
      · rw [e]; exact .base (.inl rfl)
      · rw [e]; exact h2
/-- the product of the common roots lies in the ideal of both -/
theorem common_in {one' two both as bs : List F} (h1 : one'.Perm (both ++ as)) (h2 : two.Perm (both ++ bs)) (h : ∀ a, a ∈ as → ∀ b, b ∈ bs → a ≠ b) : I (Two (prod one') (prod two)) (prod both) := by
  refine (cop as bs h).mapLs both fun f hf => ?_
  rcases hf with e | e
  · rw [e]
    refine .base (.inl ?_)
    show Ls both (Ls as one) = Ls one' one
    rw [Ls_perm h1, Ls_app]
  · rw [e]
    refine .base (.inr ?_)
    show Ls both (Ls bs one) = Ls two one
    rw [Ls_perm h2, Ls_app]
theorem common_of {one' both as : List F} (h1 : one'.Perm (both ++ as)) : I (One (prod both)) (prod one') := by
  show I _ (Ls one' one)
  rw [Ls_perm h1, Ls_app, Ls_Ls]
  exact I.Ls as (.base rfl)
/-- a multiple that is less than what it is a multiple of is 0 -/
def mul : List F → Q F → Q F
  | [], _ => nil
  | u :: us, f => add (smul u f) (sh (mul us f))
def ladd : List F → List F → List F
  | [], b => b
  | a, [] => a
  | x :: a, y :: b => (x + y) :: ladd a b
theorem mul_ladd (f : Q F) : ∀ a b, mul (ladd a b) f = add (mul a f) (mul b f)
  | [], b => by
    funext k
    show mul b f k = 0 + mul b f k
    grind
  | x :: a, [] => by
    funext k
    show mul (x :: a) f k = mul (x :: a) f k + 0
    grind
  | x :: a, y :: b => by
    funext k
    show (x + y) * f k + sh (mul (ladd a b) f) k = (x * f k + sh (mul a f) k) + (y * f k + sh (mul b f) k)
    rw [mul_ladd f a b, sh_add]
    show (x + y) * f k + (sh (mul a f) k + sh (mul b f) k) = _
    grind
theorem mul_smul (c : F) (f : Q F) : ∀ a, mul (a.map fun x => c * x) f = smul c (mul a f)
  | [] => by
    funext k
    show (0 : F) = c * 0
    grind
  | x :: a => by
    funext k
    show (c * x) * f k + sh (mul (a.map fun x => c * x) f) k = c * (x * f k + sh (mul a f) k)
    rw [mul_smul c f a, sh_smul]
    show (c * x) * f k + c * sh (mul a f) k = _
    grind
theorem mul_of {T f : Q F} (h : I (One T) f) : ∃ us, f = mul us T := by
  induction h with
  | base e =>
    refine ⟨[1], ?_⟩
    cases e
    funext k
    show T k = 1 * T k + sh nil k
    have : sh (nil : Q F) k = 0 := by cases k <;> rfl
    rw [this]
    grind
  | zero => exact ⟨[], rfl⟩
  | add _ _ a b =>
    obtain ⟨u, rfl⟩ := a
    obtain ⟨v, rfl⟩ := b
    exact ⟨ladd u v, (mul_ladd T u v).symm⟩
  | smul c _ a =>
    obtain ⟨u, rfl⟩ := a
    exact ⟨_, (mul_smul c T u).symm⟩
  | sh _ a =>
    obtain ⟨u, rfl⟩ := a
    refine ⟨0 :: u, ?_⟩
    funext k
    show sh (mul u T) k = 0 * T k + sh (mul u T) k
    grind
def Monic (n : Nat) (T : Q F) : Prop := T n = 1 ∧ ∀ k, n < k → T k = 0
theorem less_mul {n : Nat} {T : Q F} (hT : Monic n T) : ∀ us, (∀ k, n ≤ k → mul us T k = 0) → ∀ k, mul us T k = 0
  | [], _, _ => rfl
  | u :: us, h, k => by
    have ih := less_mul hT us fun k hk => by
      have e := h (k + 1) (by omega)
      have e2 : u * T (k + 1) + mul us T k = 0 := e
      rw [hT.2 (k + 1) (by omega)] at e2
      grind
    have hz : sh (mul us T) = nil := by
      funext k
      cases k with
      | zero => rfl
      | succ k => exact ih k
    have e : u * T n + sh (mul us T) n = 0 := h n (Nat.le_refl n)
    rw [hT.1, hz] at e
    have hu : u = 0 := by
      have : u * 1 + (0 : F) = 0 := e
      grind
    show u * T k + sh (mul us T) k = 0
    rw [hz, hu]
    show 0 * T k + 0 = 0
    grind
theorem less {n : Nat} {T X : Q F} (hT : Monic n T) (hX : I (One T) X) (h : ∀ k, n ≤ k → X k = 0) : ∀ k, X k = 0 := by
  obtain ⟨us, rfl⟩ := mul_of hX
  exact less_mul hT us h
/-- two monic polynomials that divide each other are one -/
theorem same {n m : Nat} {D T : Q F} (hD : Monic m D) (hT : Monic n T) (h1 : I (One T) D) (h2 : I (One D) T) : D = T := by
  have no : ∀ x : F, x = 1 → x = 0 → False := fun x a b => Fd.ne (a.symm.trans b)
  have hnm : n = m := by
    rcases Nat.lt_trichotomy n m with h | h | h
    · exact (no _ hT.1 (less hD h2 (fun k hk => hT.2 k (by omega)) n)).elim
    · exact h
    · exact (no _ hD.1 (less hT h1 (fun k hk => hD.2 k (by omega)) m)).elim
  subst hnm
  have hs := less hT (I.sub h1 (.base (S := One T) rfl)) (fun k hk => by
    rcases Nat.lt_or_eq_of_le hk with h | rfl
    · rw [hD.2 k h, hT.2 k h]; grind
    · rw [hD.1, hT.1]; grind)
  funext k
  have := hs k
  grind
end
/-! ### the residues of the prime -/
instance : NeZero Pr.P := ⟨by decide⟩
theorem fin_inv (x : Fin Pr.P) (h : x ≠ 0) : ∃ y : Fin Pr.P, y * x = 1 := by
  refine ⟨⟨x.val ^ (Pr.P - 2) % Pr.P, Nat.mod_lt _ Pr.P_pos⟩, Fin.ext ?_⟩
  have hx : x.val % Pr.P ≠ 0 := by
    rw [Nat.mod_eq_of_lt x.isLt]
    exact fun e => h (Fin.ext e)
  have e := Pr.mul_inv hx
  rw [Fin.val_mul]
  show x.val ^ (Pr.P - 2) % Pr.P * x.val % Pr.P = 1
  rw [Nat.mod_mul_mod, Nat.mul_comm]
  exact e
instance : Fd (Fin Pr.P) where
  inv_ex := fin_inv
  ne := fun h => absurd (congrArg Fin.val h) (by decide)
end Po
/-! Lists of numbers modulo 2^61 - 1 as polynomials. -/
namespace Pg
open Po
section
variable {R : Type} [Fd R]
theorem g0 (r : R) : (0 : R) = 0 - r * 0 := by grind
theorem g1 (r : R) : (1 : R) - r * 0 = 1 := by grind
theorem g2 (a r : R) : a = a - r * 0 := by grind
theorem g3 (a b s : R) : a - b + s = a - (b - s) := by grind
theorem g4 (x y o : R) (h : y * o = 1) : x - (x * y) * o = 0 := by grind
theorem g5 (a : R) : a = a - 0 := by grind
theorem g6 (a b d : R) (h : b + d = 0) : a + b = a - d := by grind
end
abbrev F := Fin Pr.P
def md (z : Int) : Nat := (z % 2305843009213693951).toNat
theorem md_lt (z : Int) : md z < 2305843009213693951 := by unfold md; omega
theorem md_int (z : Int) : (md z : Int) = z % 2305843009213693951 := by unfold md; omega
theorem md_id {n : Nat} (h : n < 2305843009213693951) : md (n : Int) = n := by unfold md; omega
def c (z : Int) : F := ⟨md z, md_lt z⟩
theorem c_val (z : Int) : (c z).val = md z := rfl
theorem c_add (a b : Int) : c (a + b) = c a + c b := by
  refine Fin.ext ?_
  rw [Fin.val_add, c_val, c_val, c_val]
  show md (a + b) = (md a + md b) % 2305843009213693951
  unfold md
  omega
theorem c_mul (a b : Int) : c (a * b) = c a * c b := by
  refine Fin.ext ?_
  rw [Fin.val_mul, c_val, c_val, c_val]
  show md (a * b) = (md a * md b) % 2305843009213693951
  have e : ((md (a * b) : Nat) : Int) = ((md a * md b % 2305843009213693951 : Nat) : Int) := by
    rw [Int.natCast_emod, Int.natCast_mul, md_int, md_int, md_int, Int.mul_emod]
    rfl
  exact Int.ofNat.inj e
theorem c_neg (a : Int) : c (-a) = - c a := by
  have h : c (-a) + c a = 0 := by
    rw [← c_add]
    refine Fin.ext ?_
    show md (-a + a) = 0
    unfold md
    omega
  have : c (-a) = (c (-a) + c a) - c a := by grind
  rw [this, h]
  grind
theorem c_sub (a b : Int) : c (a - b) = c a - c b := by
  rw [Int.sub_eq_add_neg, c_add, c_neg]
  grind
theorem c_md (z : Int) : c (md z : Int) = c z := Fin.ext (by rw [c_val, c_val, md_id (md_lt z)])
theorem c_zero : c 0 = 0 := rfl
theorem c_one : c 1 = 1 := rfl
theorem c_inj {a b : Nat} (ha : a < 2305843009213693951) (hb : b < 2305843009213693951) (h : c a = c b) : a = b := by
  have := congrArg Fin.val h
  rw [c_val, c_val, md_id ha, md_id hb] at this
  exact this
theorem c_ne {a : Nat} (ha : a < 2305843009213693951) (h : a ≠ 0) : c a ≠ 0 := fun e => h (c_inj (b := 0) ha (by decide) e)
/-- numbers of the prime -/
def Pm (l : List Nat) : Prop := ∀ n, n ∈ l → n < 2305843009213693951
theorem Pm.at {l : List Nat} (h : Pm l) (k : Nat) : l.getD k 0 < 2305843009213693951 := by
  rw [List.getD_eq_getElem?_getD]
  cases e : l[k]? with
  | none => show 0 < _; omega
  | some n => exact h n (List.mem_of_getElem? e)
def cf (l : List Nat) : Q F := fun k => c ((l.getD k 0 : Nat) : Int)
theorem cf_far {l : List Nat} {k : Nat} (h : l.length ≤ k) : cf l k = 0 := by
  show c ((l.getD k 0 : Nat) : Int) = 0
  rw [List.getD_eq_getElem?_getD, List.getElem?_eq_none h]
  rfl
theorem cf_eq {l m : List Nat} (hl : Pm l) (hm : Pm m) (e : l.length = m.length) (h : cf l = cf m) : l = m := by
  refine List.ext_getElem e fun i h1 h2 => ?_
  have := congrFun h i
  have e2 : l.getD i 0 = m.getD i 0 := c_inj (hl.at i) (hm.at i) this
  rw [List.getD_eq_getElem?_getD, List.getD_eq_getElem?_getD, List.getElem?_eq_getElem h1, List.getElem?_eq_getElem h2] at e2
  exact e2
/-- Horner's -/
def hor (x : Nat) : List Nat → Nat
  | [] => 0
  | n :: l => md ((hor x l : Nat) * x + n)
/-- one root more -/
def mr (r : Nat) (l : List Nat) : List Nat := List.zipWith (fun lo hi => md ((lo : Nat) - (r : Nat) * (hi : Nat))) (0 :: l) (l ++ [0])
def rp (l : List Nat) (rs : List Nat) : List Nat := rs.foldl (fun l r => mr r l) l
theorem mr_len (r : Nat) (l : List Nat) : (mr r l).length = l.length + 1 := by unfold mr; simp
theorem mr_pm (r : Nat) (l : List Nat) : Pm (mr r l) := by
  intro n hn
  obtain ⟨i, h⟩ := List.mem_iff_getElem?.mp hn
  unfold mr at h
  rw [List.getElem?_zipWith] at h
  split at h
  · cases h; exact md_lt _
  · cases h
theorem mr_at (r : Nat) (l : List Nat) (k : Nat) (h : k < l.length + 1) : (mr r l)[k]? = some (md (((if k = 0 then 0 else l.getD (k - 1) 0 : Nat) : Int) - (r : Nat) * (l.getD k 0 : Nat))) := by
  unfold mr
  rw [List.getElem?_zipWith]
  have h1 : (0 :: l)[k]? = some (if k = 0 then 0 else l.getD (k - 1) 0) := by
    cases k with
    | zero => rfl
    | succ k =>
      rw [List.getElem?_cons_succ, List.getElem?_eq_getElem (by omega)]
      simp [List.getD_eq_getElem?_getD, List.getElem?_eq_getElem (show k < l.length by omega)]
  have h2 : (l ++ [0])[k]? = some (l.getD k 0) := by
    rw [List.getD_eq_getElem?_getD]
    by_cases hk : k < l.length
    · rw [List.getElem?_append_left hk, List.getElem?_eq_getElem hk]
      rfl
    · obtain rfl : k = l.length := by omega
      rw [List.getElem?_append_right (Nat.le_refl _), Nat.sub_self, List.getElem?_eq_none (Nat.le_refl _)]
      rfl
  rw [h1, h2]
theorem cf_mr (r : Nat) (l : List Nat) : cf (mr r l) = L (c r) (cf l) := by
  funext k
  by_cases h : k < l.length + 1
  · show c (((mr r l).getD k 0 : Nat) : Int) = sh (cf l) k - c r * cf l k
    rw [List.getD_eq_getElem?_getD, mr_at r l k h, Option.getD_some, c_md, c_sub, c_mul]
    have : c ((if k = 0 then 0 else l.getD (k - 1) 0 : Nat) : Int) = sh (cf l) k := by
      cases k with
      | zero => rfl
      | succ k => rfl
    rw [this]
    rfl
  · rw [cf_far (by rw [mr_len]; omega)]
    show 0 = sh (cf l) k - c r * cf l k
    have h1 : cf l k = 0 := cf_far (by omega)
    have h2 : sh (cf l) k = 0 := by
      cases k with
      | zero => rfl
      | succ k => exact cf_far (by omega)
    rw [h1, h2]
    exact g0 _
theorem cf_rp : ∀ (rs l : List Nat), cf (rp l rs) = Ls (rs.map fun r => c (r : Nat)) (cf l)
  | [], l => rfl
  | r :: rs, l => by
    show cf (rp (mr r l) rs) = L (c r) (Ls (rs.map fun r => c (r : Nat)) (cf l))
    rw [cf_rp rs, cf_mr, Ls_L]
theorem cf_one : cf [1] = one := by
  funext k
  cases k with
  | zero => rfl
  | succ k => rfl
theorem rp_len : ∀ (rs l : List Nat), (rp l rs).length = l.length + rs.length
  | [], l => rfl
  | r :: rs, l => by
    show (rp (mr r l) rs).length = _
    rw [rp_len rs, mr_len, List.length_cons]
    omega
theorem rp_pm : ∀ (rs l : List Nat), Pm l → Pm (rp l rs)
  | [], l, h => h
  | r :: rs, l, h => rp_pm rs (mr r l) (mr_pm r l)
theorem monic_L {n : Nat} {f : Q F} (r : F) (h : Monic n f) : Monic (n + 1) (L r f) := by
  refine ⟨?_, fun k hk => ?_⟩
  · show f n - r * f (n + 1) = 1
    rw [h.1, h.2 (n + 1) (by omega)]
    exact g1 _
  · cases k with
    | zero => omega
    | succ k =>
      show f k - r * f (k + 1) = 0
      rw [h.2 k (by omega), h.2 (k + 1) (by omega)]
      exact (g0 _).symm
theorem monic_Ls : ∀ (rs : List F), Monic rs.length (Ls rs one)
  | [] => ⟨rfl, fun k hk => by
    cases k with
    | zero => cases hk
    | succ k => rfl⟩
  | r :: rs => monic_L r (monic_Ls rs)
/-- the polynomial with some roots -/
def br (rs : List Nat) : List Nat := rp [1] rs
theorem cf_br (rs : List Nat) : cf (br rs) = prod (rs.map fun r => c (r : Nat)) := by
  unfold br prod
  rw [cf_rp, cf_one]
theorem br_len (rs : List Nat) : (br rs).length = rs.length + 1 := by
  unfold br
  rw [rp_len]
  simp
  omega
theorem br_pm (rs : List Nat) : Pm (br rs) := rp_pm rs [1] (fun n hn => by
  have : n = 1 := by simpa using hn
  rw [this]
  decide)
theorem br_monic (rs : List Nat) : Monic rs.length (cf (br rs)) := by
  rw [cf_br]
  have := monic_Ls (rs.map fun r => c (r : Nat))
  rw [List.length_map] at this
  exact this
theorem br_last (rs : List Nat) : (br rs)[rs.length]? = some 1 := by
  have h := (br_monic rs).1
  have h2 : (br rs).getD rs.length 0 = 1 := c_inj (b := 1) ((br_pm rs).at _) (by decide) h
  rw [List.getD_eq_getElem?_getD, List.getElem?_eq_getElem (by rw [br_len]; omega)] at h2
  rw [List.getElem?_eq_getElem (by rw [br_len]; omega)]
  exact congrArg some h2
/-- shifted -/
def shn : Nat → Q F → Q F
  | 0, f => f
  | n + 1, f => sh (shn n f)
theorem shn_at : ∀ (n : Nat) (f : Q F) (k : Nat), shn n f k = if k < n then 0 else f (k - n)
  | 0, f, k => by simp [shn]
  | n + 1, f, 0 => by simp [shn, sh]
  | n + 1, f, k + 1 => by
    show shn n f k = _
    rw [shn_at n f k]
    by_cases h : k < n
    · rw [if_pos h, if_pos (by omega)]
    · rw [if_neg h, if_neg (by omega)]
      congr 1
      omega
theorem I_shn {S : Q F → Prop} {f : Q F} (h : I S f) : ∀ n, I S (shn n f)
  | 0 => h
  | n + 1 => (I_shn h n).sh
/-- a list from which f times another, moved, is taken away at its first k places -/
def Took (left other : List Nat) (at_ f k : Nat) (l : List Nat) : Prop :=
  l.length = left.length ∧ Pm l ∧ ∀ j, l.getD j 0 = if at_ ≤ j ∧ j < at_ + k then md ((left.getD j 0 : Nat) - (f : Nat) * (other.getD (j - at_) 0 : Nat)) else left.getD j 0
theorem took0 {left other : List Nat} {at_ f : Nat} (h : Pm left) : Took left other at_ f 0 left := ⟨rfl, h, fun j => by rw [if_neg (by omega)]⟩
theorem getD_set {l : List Nat} {i j v : Nat} (h : i < l.length) : (l.set i v).getD j 0 = if j = i then v else l.getD j 0 := by
  rw [List.getD_eq_getElem?_getD, List.getElem?_set]
  by_cases e : i = j
  · subst e
    simp [h]
  · rw [if_neg e, if_neg (fun z => e z.symm), List.getD_eq_getElem?_getD]
theorem pm_set {l : List Nat} {i v : Nat} (h : Pm l) (hv : v < 2305843009213693951) : Pm (l.set i v) := fun n hn => by
  rcases List.mem_or_eq_of_mem_set hn with h1 | h1
  · exact h n h1
  · rw [h1]; exact hv
theorem Took.next {left other l : List Nat} {at_ f k : Nat} (h : Took left other at_ f k l) (hk : at_ + k < left.length) : Took left other at_ f (k + 1) (l.set (at_ + k) (md ((l.getD (at_ + k) 0 : Nat) - (f : Nat) * (other.getD k 0 : Nat)))) := by
  obtain ⟨h1, h2, h3⟩ := h
  refine ⟨by rw [List.length_set, h1], pm_set h2 (md_lt _), fun j => ?_⟩
  rw [getD_set (by omega)]
  by_cases e : j = at_ + k
  · subst e
    rw [if_pos rfl, if_pos (by omega), h3, if_neg (by omega), show at_ + k - at_ = k by omega]
  · rw [if_neg e, h3]
    by_cases e2 : at_ ≤ j ∧ j < at_ + k
    · rw [if_pos e2, if_pos (by omega)]
    · rw [if_neg e2, if_neg (by omega)]
theorem Took.cf {left other l : List Nat} {at_ f : Nat} (h : Took left other at_ f other.length l) : Pg.cf l = fun j => Pg.cf left j - smul (c f) (shn at_ (Pg.cf other)) j := by
  funext j
  show c ((l.getD j 0 : Nat) : Int) = Pg.cf left j - c f * shn at_ (Pg.cf other) j
  rw [h.2.2 j, shn_at]
  by_cases e : at_ ≤ j ∧ j < at_ + other.length
  · rw [if_pos e, if_neg (by omega), c_md, c_sub, c_mul]
    rfl
  · rw [if_neg e]
    by_cases e2 : j < at_
    · rw [if_pos e2]
      exact g2 _ _
    · rw [if_neg e2, cf_far (l := other) (k := j - at_) (by omega)]
      exact g2 _ _
/-- one step of dividing: it stays in the ideal, and one place more is 0 -/
theorem Took.step {left other l poly : List Nat} {at_ f lead : Nat} (h : Took left other at_ f other.length l) (ho : Pm other) (h0 : 0 < other.length) (hl : c lead * c (other.getD (other.length - 1) 0) = 1) (hf : f = md ((left.getD (at_ + (other.length - 1)) 0 : Nat) * (lead : Nat)))
    (hin : I (One (Pg.cf other)) (fun k => Pg.cf poly k - Pg.cf left k)) (hz : ∀ j, at_ + other.length ≤ j → left.getD j 0 = 0) :
    I (One (Pg.cf other)) (fun k => Pg.cf poly k - Pg.cf l k) ∧ ∀ j, at_ + (other.length - 1) ≤ j → l.getD j 0 = 0 := by
  refine ⟨?_, fun j hj => ?_⟩
  · have h1 : I (One (Pg.cf other)) (smul (c f) (shn at_ (Pg.cf other))) := (I_shn (.base (S := One (Pg.cf other)) rfl) at_).smul _
    have h2 := hin.add h1
    have e : add (fun k => Pg.cf poly k - Pg.cf left k) (smul (c f) (shn at_ (Pg.cf other))) = fun k => Pg.cf poly k - Pg.cf l k := by
      funext k
      rw [h.cf]
      exact g3 _ _ _
    rw [e] at h2
    exact h2
  · refine c_inj (b := 0) (h.2.1.at j) (by decide) ?_
    show Pg.cf l j = 0
    rw [h.cf]
    show Pg.cf left j - c f * shn at_ (Pg.cf other) j = 0
    rw [shn_at, if_neg (by omega)]
    by_cases e : j = at_ + (other.length - 1)
    · rw [show j - at_ = other.length - 1 by omega]
      show c (left.getD j 0 : Nat) - c f * c (other.getD (other.length - 1) 0 : Nat) = 0
      rw [hf, c_md, c_mul, ← e]
      exact g4 _ _ _ hl
    · have e1 : Pg.cf left j = 0 := by
        show c (left.getD j 0 : Nat) = 0
        rw [hz j (by omega)]
        rfl
      rw [e1, cf_far (l := other) (k := j - at_) (by omega)]
      exact (g0 _).symm
end Pg
namespace PySem
namespace WrX
open PySem.W PySem.Calls PyProof.Rows PySem.HandSPX
def iA (p1 p2 : Pos) : Arguments := { posonlyargs := [], args := [{ arg := "self", annotation := none, pos := p1 }, { arg := "place", annotation := none, pos := p2 }], vararg := none, kwonlyargs := [], kw_defaults := [], kwarg := none, defaults := [] }
def iB (tx : Str) (q1 q2 q3 q4 q5 q6 q7 q8 q9 r1 r2 r3 r4 : Pos) : List Stmt :=
  [.Expr (.Call (.Attribute (.Call (.Name "super" q1) [] [] q2) "__init__" q3) [.JoinedStr [.Constant (.str tx) 0 q4, .FormattedValue (.Name "place" q5) (-1) none q6] q7] [] q8) q9,
   .Assign [.Attribute (.Name "self" r1) "place" r2] (.Name "place" r3) r4]
def iS : Scope := { kind := .function, names := [(PySem.Str.ofString "self", .local), (PySem.Str.ofString "place", .local), (PySem.Str.ofString "__class__", .free), (PySem.Str.ofString "super", .globalImplicit)], isGenerator := false, isCoroutine := false, more := [] }
/-- what the written part says of the class at C, and of its __init__, at fI -/
structure WrTxt (P : Program) (K : Frag) (mg : Str → Option Value) (x : Str) (C fI : Addr) : Prop where
  gC : mg x = some (.ref C)
  cls : ∃ nm q N bs bm sn sub ab col dd k0 k1 k2 k3 k5, K.lookup C = some (excClassObj nm q C N bs bm true sn sub ab col dd k0 k1 k2 k3 k5 "ValueError.__new__") ∧ refsVE bm = true
  sa : findIn K (.ref C) "__setattr__" = some (some (.builtin "object.__setattr__"))
  ga : findIn K (.ref C) "__getattribute__" = some (some (.builtin "BaseException.__getattribute__"))
  gg : findIn K (.ref C) "__getattr__" = some none
  noN : findIn K (.ref C) "place" = some none
  iC : findIn K (.ref C) "__init__" = some (some (.ref fI))
  tC : typeIn K (.ref fI) = some (.type "function")
  kC : keepIn K (.ref C) = true
  exC : subIn K (.ref C) (.type "BaseException") = some true
  tyC : typeIn K (.ref C) = some (.type "type")
  hdC : hasDictIn K C = true
  su : ks_superIn K C C "__init__" = some (some (.builtin "ValueError.__init__"))
  opq : nsIn K cStatics "thirdparty.any" = some none
  msup : mg "super" = none
  top : (P.main.scope.names.lookup ("super" : Str)).isSome = false
  self : mroIn K C (.ref C) = some true
  inVE : subIn K (.ref C) (.type "ValueError") = some true
  fn : ∃ (oc : Value) (od : Option Addr) (q : Str) (doc pm : Value) (an : Option Addr) (cda cc : Addr) (ct : Value) (osl : Array (Option Value)) (tx : Str) (p1 p2 q1 q2 q3 q4 q5 q6 q7 q8 q9 r1 r2 r3 r4 : Pos)
    (ccl : Value) (cdd : Option Addr) (vs : Array Value) (ccs : Array (Option Value)) (file : Str) (tf : Tok) (cl : Value) (cld : Option Addr) (csl : Array (Option Value)),
    K.lookup fI = some ⟨oc, od, .func (ksFn "__init__" q (iA p1 p2) (iB tx q1 q2 q3 q4 q5 q6 q7 q8 q9 r1 r2 r3 r4) iS .none .none doc pm an (.ref cda) ct cc), osl⟩ ∧ codeIn K (.ref cda) q = true ∧
    K.lookup cda = some ⟨ccl, cdd, .fields vs, ccs⟩ ∧ vs[2]? = some (.str file tf) ∧ ((P.main.file : Str) == file) = true ∧ K.lookup cc = some ⟨cl, cld, .cell (some (.ref C)), csl⟩ ∧ tx.length ≤ 1000 ∧ (q3.endLine == q8.line) = true
/-- what __init__ leaves of a fresh exception at x -/
structure InitEnd (h h' : Heap) (x C dx t1 : Addr) (v : Value) : Prop where
  keep : ∀ b o, b ≠ x → h.get? b = some o → h'.get? b = some o
  obj : h'.get? x = some { cls := .ref C, dict := some dx, data := .fields #[.ref t1, .none, .none, .none, .bool false, .none] }
  dbig : h.objs.size ≤ dx
  dne : dx ≠ x
  ns : h'.Ns1 dx (fun y => if y = "place" then some v else none)
section
variable {prog : Program} {w : World} {A : Around} {E : Value → Shared → Prop} {R : Result → Shared → Prop} {s : Shared} {K : Frag} {mg : Str → Option Value} {xn : Str} {C fI : Addr}
theorem at_mcall {M : Model} {c : Code} {env : Env} {o : Expr} {name : Str} {apos pos : Pos} {args : List Expr} {Q : Value → Shared → Prop} (hline : (apos.endLine == pos.line) = true) (hform : methodCallForm (args.length + ([] : List Keyword).length) (backTo pos (starEach args env)) (backToKw pos (keywordEach [] env)) = true)
    (h : wpAt M A c (attributeBase o name env (eval o env)) (fun ov s₁ => wpAny M A (getMethod ov name (do return (← importBound o env).getD true)) (fun fx s₂ => wpAny M A (callWith pos fx.1 fx.2 (backTo pos (starEach args env)) []) Q E s₂) E s₁) E s) :
    wpAt M A c (eval (.Call (.Attribute o name apos) args [] pos) env) Q E s := by
  have hpos : methodCallPos true o env apos pos = pure pos := by unfold methodCallPos; simp [hline]
  rw [arm_eval_Call]
  refine wpAt_bind (wpAt_mono h (fun ov s₁ h₁ => wpAt_of_wpAny (wpAny_bind (wpAny_standAt ?_))) fun _ _ x => x)
  unfold methodCall
  rw [hform, hpos]
  refine wpAny_bind (wpAny_holding (wpAny_mono h₁ (fun fx s₂ h₂ => ?_) fun _ _ x => x))
  exact wpAny_bind (wpAny_pure h₂)
/-- ValueError.__init__ of the bound wrapper -/
theorem call_mw {u e t0 : Addr} {rest : List Value} {Q : Value → Shared → Prop} {h : Heap} {g : Array GenState} {d : Drawn} {t : Nat} {os : OsState}
    {nm q : Str} {N : Addr} {bs bm : List Value} {sn : List Str} {sub : List Value} {ab : Bool} {col : Option Bool} {dd : Option Addr} {k0 k1 k2 k3 k5 : Option Value}
    (hC : h.get? C = some (excClassObj nm q C N bs bm true sn sub ab col dd k0 k1 k2 k3 k5 "ValueError.__new__")) (he : h.get? e = some (excO C t0)) (hu : h.get? u = some (kxs_mw "ValueError.__init__" e)) (hrest : rest.length ≤ sizeLine)
    (hq : ∀ h' t1, (∀ b o, b ≠ e → h.get? b = some o → h'.get? b = some o) → h'.get? e = some (excO C t1) → Q .none ⟨h', g, d, t, os⟩) :
    wpAny (model prog w) A (call (.ref u) rest) Q E ⟨h, g, d, t, os⟩ := by
  refine wpAny_call (codeAny_of_tree ?_)
  show wpAny _ A.in1 (callAny (.ref u) ⟨rest, []⟩) _ _ _
  simp only [callAny]
  refine wpAny_bind (wpAny_load hu ?_)
  simp only [kxs_mw, show (Value.type "method-wrapper" == Value.type "method" || Value.type "method-wrapper" == Value.type "builtin_function_or_method" || Value.type "method-wrapper" == Value.type "method-wrapper") = true by decide, if_true]
  refine W.KFB.if_so (by decide) ?_
  refine wpAny_bind (check_bound_init F.excBase_ValueError.toExcCallFacts hC he rfl ?_)
  refine wpAny_bind (wpAny_pure (wpAny_pure ?_))
  refine ⟨plainId_quiet F.excBase_ValueError.init.plain _, codeAny_builtin F.excBase_ValueError.initEntry ?_⟩
  rw [Around.under_plainId F.excBase_ValueError.init.plain _]
  wp_walk
  refine hq _ h.objs.size (fun b o hb ho => ?_) ?_
  · rw [Heap.get?_update_other _ _ (Ne.symm hb)]
    exact Heap.get?_push_of_some _ ho
  · rw [Heap.get?_update_self _ (Heap.get?_push_of_some _ he) rfl]
    rfl

/-- __init__(self, place) of an int -/
theorem wrong_init (T : WrTxt prog K mg xn C fI) {x t0 : Addr} {n : Int} {tn : Tok} (X : K.In s.heap) (G : s.heap.Ns mainGlobals mg) (B : ∃ mb, s.heap.Ns builtinsNs mb ∧ ∀ x : Str, x ≠ "__name__" → mb x = bootBuiltins x)
    (hlim : s.heap.NoLimit) (hx : s.heap.get? x = some (excO C t0)) (hnx : K.lookup x = none) (hn : n.natAbs.log2 < 1920) (hroom : A.depth < recursionLimit)
    (hq : ∀ h' tk dx t1, InitEnd s.heap h' x C dx t1 (.int n tn) → R (.ok (.ret .none)) { s with heap := h', toks := tk }) :
    codeAny (model prog w) A (.call (.ref fI) ⟨[.ref x, .int n tn], []⟩) R s := by
  obtain ⟨oc, od, q, doc, pm, an, cda, cc, ct, osl, tx, p1, p2, q1, q2, q3, q4, q5, q6, q7, q8, q9, r1, r2, r3, r4, ccl, cdd, vs, ccs, file, tf, cl, cld, csl, ho, hcd, hcda, hvs, hfile, hcc, htx, hline⟩ := T.fn
  obtain ⟨nm, qn, N, bs, bm, sn, sub, ab, col, dd, k0, k1, k2, k3, k5, hC, hbm⟩ := T.cls
  have hcl : clsIn K C = some { name := nm, bases := bs, mro := .ref C :: bm, ns := N, qualname := qn, hasDict := true, slotNames := sn, subclasses := sub, abstract := ab, collection := col, hasDel := false } := by unfold clsIn; rw [hC] <;> rfl
  have I0 : InstAt s.heap x (excO C t0) C none := ⟨hx, rfl, rfl, trivial⟩
  have hxC : x ≠ C := ks_ne X I0 hcl
  refine ks_codeAny_call_defAt (fd := ksFn "__init__" q (iA p1 p2) (iB tx q1 q2 q3 q4 q5 q6 q7 q8 q9 r1 r2 r3 r4) iS .none .none doc pm an (.ref cda) ct cc) (body := iB tx q1 q2 q3 q4 q5 q6 q7 q8 q9 r1 r2 r3 r4) (binds := [("self", .ref x), ("place", .int n tn)])
    hroom (X _ _ ho) rfl hlim (codeRec_of X hcd) rfl (BindsTo.of_eq rfl) (by show ∀ x ∈ iS.names, x.2 ≠ .cell; decide) (locs rfl) (fun h₀ hns k₀ => ?_) rfl rfl rfl
  obtain ⟨hp, g, d, t, os⟩ := s
  have X₀ : K.In h₀ := X.keeps k₀
  have hx₀ := k₀ _ _ hx
  have hxL : hp.objs.size ≠ x := Nat.ne_of_gt (Heap.lt_size hx)
  -- super().__init__(f'..')
  refine ks_wpAt_execs_cons (ks_wpAt_Expr_any ?_)
  refine at_mcall hline rfl ?_
  refine ks_wpAt_super_base (env := callEnv (ksFn "__init__" q (iA p1 p2) (iB tx q1 q2 q3 q4 q5 q6 q7 q8 q9 r1 r2 r3 r4) iS .none .none doc pm an (.ref cda) ct cc) hp.objs.size fI) rfl rfl (by decide) rfl (X₀ _ _ ho) rfl rfl rfl (X₀ _ _ hcda) rfl hvs hfile T.top ?_
  obtain ⟨mb, hb, hmb⟩ := B
  refine ks_loadName_global rfl rfl (loadGlobal_builtin (v := .type "super") (Heap.Ns.keeps G k₀) T.msup (Heap.Ns.keeps hb k₀) ((hmb _ (by decide +kernel)).trans (by first | rfl | kernel_rfl)) ⟨rfl, ?_⟩)
  refine wpAny_loadName_free rfl rfl rfl ⟨_, X₀ _ _ hcc, rfl⟩ ?_
  refine wpAny_loadName_local rfl rfl hns (by first | rfl | with_unfolding_all rfl | kernel_rfl) ?_
  refine ks_wpAny_isType_cls (X₀ _ _ hC) rfl ⟨rfl, ?_⟩
  refine ks_wpAny_call_super (X₀ _ _ hC) rfl hx₀ rfl (fun c z => by cases z) (looks_mroIn X₀ T.self) (fun h₁ hso k₁ => ?_)
  have X₁ : K.In h₁ := X₀.keeps k₁
  have hx₁ := k₁ _ _ hx₀
  have hC₁ := X₁ _ _ hC
  have I1 : InstAt h₁ x (excO C t0) C none := ⟨hx₁, rfl, rfl, trivial⟩
  have hI : Looks (model prog w) h₁ (isInstance (.ref x) (.type "ValueError")) true := I1.type.andThen (looks_subIn X₁ T.inVE)
  have hm := T.su
  unfold ks_superIn at hm
  rw [hcl] at hm
  refine kxs_getMethod kxs_ValueError (d := d) (g := g) (os := os) hso (looks_opaque X₁ T.opq) (l₀ := .ref C :: bm) (fun A Q E s k q => wpAny_bind ((looks_clsIn X₁ hcl) A _ E s k (wpAny_pure q))) rfl X₁ hm hI hxC (by decide) ?_
  have hu : (h₁.push (kxs_mw "ValueError.__init__" x)).get? h₁.objs.size = some (kxs_mw "ValueError.__init__" x) := Heap.get?_push_at rfl rfl
  have k₂ : ∀ b o, h₁.get? b = some o → (h₁.push (kxs_mw "ValueError.__init__" x)).get? b = some o := fun b o e => Heap.get?_push_of_some _ e
  refine kxs_callWith (i := "ValueError.__init__") (x := x) rfl ?_
  refine evalArgs_plain (Calls.spliced_cons ?_)
  have hns₂ := (hns.keeps k₁).keeps k₂
  have hi : (Str.ofString (toString n)).length ≤ 1921 := by
    have e := int_text_length_le (k := 1920) (by decide) hn
    rw [ofString_length]
    exact e
  show wpAny _ _ (eval (.JoinedStr [.Constant (.str tx) 0 q4, .FormattedValue (.Name "place" q5) (-1) none q6] q7) _) _ _ _
  refine wpAny_JoinedStr ?_
  refine Calls.Constant_str ⟨tx, _, rfl, ?_, ?_⟩
  · rw [Str.length_append, sizeLine_eq]
    have : Str.empty.length = 0 := rfl
    omega
  refine wpAny_FormattedValue_plain (wpAny_Name (wpAny_loadName_local rfl rfl hns₂ (by first | rfl | with_unfolding_all rfl | kernel_rfl) (wpAny_formatField_int hn ⟨toString n, _, rfl, ?_, ?_⟩)) (by decide))
  · rw [Str.length_append, Str.length_append, sizeLine_eq]
    have : Str.empty.length = 0 := rfl
    omega
  refine ⟨?_, ?_⟩
  · rw [Str.length_append, Str.length_append, sizeLine_eq]
    have : Str.empty.length = 0 := rfl
    omega
  refine Calls.spliced_nil ?_
  show KxsAt _ _ _ _ ∧ wpAny _ _ (call _ _) _ _ _
  refine ⟨hu, ?_⟩
  refine call_mw (k₂ _ _ hC₁) (k₂ _ _ hx₁) hu (by show 1 ≤ sizeLine; rw [sizeLine_eq]; omega) (fun h₃ t1 k₃ hx₃ => ?_)
  have kc : ∀ b o, hp.get? b = some o → b ≠ x → h₃.get? b = some o := fun b o e n => k₃ b o n (k₂ b o (k₁ b o (k₀ b o e)))
  have X₃ : K.In h₃ := fun a o e => kc a o (X _ _ e) (fun z => by rw [z, hnx] at e; cases e)
  have hns₃ : h₃.Ns hp.objs.size _ := hns₂.at fun o e => k₃ _ o hxL e
  -- self.place = place
  show wpAt _ _ _ (execs _ _) _ _ _
  refine wpAt_of_wpAny ?_
  refine wpAny_execs_cons (plainObj_wpAny_Assign_Attribute ?_)
  refine wpAny_Name (wpAny_loadName_local rfl rfl hns₃ (by first | rfl | with_unfolding_all rfl | kernel_rfl) ?_) (by decide)
  refine wpAny_Name (wpAny_loadName_local rfl rfl hns₃ (by first | rfl | with_unfolding_all rfl | kernel_rfl) ?_) (by decide)
  refine set_plain X₃ (ox := excO C t1) (od := none) ⟨hx₃, rfl, rfl, trivial⟩ T.sa ?_
  refine exc_osa X₃ hx₃ hcl (show refsVE (.ref C :: bm) = true from hbm) rfl T.noN (fun h₄ tk₄ dx k₄ dn dne hx₄ hn₄ => ?_)
  show wpAny _ _ (execs _ _) _ _ _
  refine wpAny_execs_nil (hq h₄ tk₄ dx t1 ⟨fun b o hb e => k₄ b o hb (kc b o e hb), hx₄, ?_, dne, hn₄⟩)
  obtain ⟨oL, _, _, hoL, _⟩ := hns₃
  exact Nat.le_trans (Nat.le_of_lt (Heap.lt_size hoL)) dn

/-- a made error -/
structure OwnMade (h h' : Heap) (e C d : Addr) (v : Value) : Prop where
  keep : ∀ b o, h.get? b = some o → h'.get? b = some o
  new : h.objs.size ≤ e
  obj : ∃ oe vs, h'.get? e = some oe ∧ oe.cls = .ref C ∧ oe.dict = some d ∧ oe.data = .fields vs ∧ vs[1]? = some .none
  dbig : h.objs.size ≤ d
  dne : d ≠ e
  ns : h'.Ns1 d (fun y => if y = "place" then some v else none)
theorem wrong_made (T : WrTxt prog K mg xn C fI) {n : Int} {tn : Tok} (X : K.In s.heap) (G : s.heap.Ns mainGlobals mg) (B : ∃ mb, s.heap.Ns builtinsNs mb ∧ ∀ x : Str, x ≠ "__name__" → mb x = bootBuiltins x) (hlim : s.heap.NoLimit) (hn : n.natAbs.log2 < 1920) (hroom : A.depth + 1 < recursionLimit)
    (hq : ∀ h' tk e d, OwnMade s.heap h' e C d (.int n tn) → R (.ok (.ret (.ref e))) { s with heap := h', toks := tk }) :
    codeAny (model prog w) A (.call (.ref C) ⟨[.int n tn], []⟩) R s := by
  obtain ⟨nm, q, N, bs, bm, sn, sub, ab, col, dd, k0, k1, k2, k3, k5, hC, hbm⟩ := T.cls
  obtain ⟨hp, g, dr, tk, os⟩ := s
  have k : ∀ b o, hp.get? b = some o → ((hp.push (kdv_tup [.int n tn])).push (excO C hp.objs.size)).get? b = some o := fun b o e => Heap.get?_push_of_some _ (Heap.get?_push_of_some _ e)
  have hget : ((hp.push (kdv_tup [.int n tn])).push (excO C hp.objs.size)).get? (hp.objs.size + 1) = some (excO C hp.objs.size) := by heap_get
  have hnx : K.lookup (hp.objs.size + 1) = none := by
    cases e : K.lookup (hp.objs.size + 1) with
    | none => rfl
    | some o =>
      have z : hp.get? (hp.objs.size + 1) = some o := X _ _ e
      exact absurd (Nat.lt_of_succ_lt (Heap.lt_size z)) (Nat.lt_irrefl _)
  refine call_own F.excBase_ValueError (fun X => refsVE_contains X bm hbm) (X _ _ hC) (looks_findIn X T.iC) (fun self => bind_fn X self T.tC) (by show 1 ≤ sizeLine; rw [sizeLine_eq]; omega) ?_
  obtain ⟨mb, hb, hmb⟩ := B
  refine wrong_init (s := ⟨(hp.push (kdv_tup [.int n tn])).push (excO C hp.objs.size), g, dr, tk, os⟩) T (X.keeps k) (G.keeps k) ⟨mb, hb.keeps k, hmb⟩ (hlim.keeps k) hget hnx hn ?_ fun h' tk' dx t1 ⟨k', hx, dn, dne, hns⟩ => ?_
  · show A.depth + 1 < recursionLimit
    exact hroom
  · have old : ∀ b o, hp.get? b = some o → h'.get? b = some o := fun b o e => k' b o (Nat.ne_of_lt (Nat.lt_succ_of_lt (Heap.lt_size e))) (k b o e)
    have z : hp.objs.size + 1 + 1 ≤ dx := by
      first
        | (simpa only [Heap.size_push] using dn)
        | exact dn
        | (have q := dn; rw [Heap.size_push, Heap.size_push] at q; exact q)
    exact ⟨rfl, hq h' tk' (hp.objs.size + 1) dx ⟨old, Nat.le_succ _, ⟨_, _, hx, rfl, rfl, rfl, rfl⟩, Nat.le_trans (Nat.le_trans (Nat.le_succ _) (Nat.le_succ _)) z, dne, hns⟩⟩
end
end WrX
end PySem
namespace L2
open PySem PySem.Spec PyProof.Rows
theorem relO_wr {v : V} {v' : Value} (r : RelV v v') (f : Str) : RelO (List.lookup f [(("place" : Str), v)]) (if f = "place" then some v' else none) := by
  by_cases hw : f = "place"
  · subst hw
    rw [if_pos rfl]
    have q : List.lookup ("place" : Str) [(("place" : Str), v)] = some v := by simp [List.lookup]
    rw [q]
    exact r
  · rw [if_neg hw]
    have qw : (f == ("place" : Str)) = false := by simpa using hw
    have q2 : List.lookup f [(("place" : Str), v)] = none := by simp [List.lookup, qw]
    rw [q2]
    trivial
section
variable {X : Cx} {xn : Str} {C fI : Addr}
/-- Low(e) -/
def tMkWr (C : Addr) (ta : TA) : St → Hp → XK → Prop := fun σ H Q => ta σ H fun vs H1 => ∃ n : Int, vs = [.int n] ∧ n.natAbs.log2 < 1920 ∧ ∀ d, H1 d = none → Q (.ref C) (some d) (upd H1 d (.xd [(("place" : Str), .int n)]))
theorem pmk_wr {a : Expr} {ta : TA} {p pos : Pos} {k : Nat} (T : PySem.WrX.WrTxt X.prog X.K X.mg xn C fI) (hr : Room k X.A) (ha : PA X [a] ta) (hg : Gl X xn := by rfl) (hdb : (xn == ("__debug__" : Str)) = false := by decide)
    (he : starEach (a :: []) X.env = (false, eval a X.env) :: starEach [] X.env := by rfl) (hpl : (backTo pos (starEach [] X.env)).any (·.1) = false := by rfl) :
    PMk X (.Call (.Name xn p) [a] [] pos) (tMkWr C ta) := by
  intro pins s σ H Q I h
  refine wpAny_Call_Name_kw (ld_glob I hg T.gC ?_ hdb)
  refine PySem.W.callWith_K (h₀ := X.base) I.ok.mod.kin T.kC (thn (ha.run pos pins s σ H _ I h) fun us s1 hh => ?_) he hpl
  obtain ⟨vs, H1, I1, r1, n, ev, hn, q1⟩ := hh
  subst ev
  refine ⟨I1.kIn, ?_⟩
  cases r1 with
  | cons rv rn =>
    rename_i v' us'
    cases rn
    obtain ⟨tn, rfl⟩ := rv
    show wpAny _ _ (call (.ref C) [.int n tn]) _ _ _
    have hlim := I1.nolimit
    obtain ⟨hp, g, dr, tk, os⟩ := s1
    refine wpAny_call (PySem.WrX.wrong_made T I1.kIn (I1.mod.glob.keeps I1.bk) (by obtain ⟨mb, hb, hmb⟩ := I1.mod.blt; exact ⟨mb, hb.keeps I1.bk, hmb⟩) hlim hn (by have := hr.dp; omega) fun h' tk' e d M => ?_)
    show MkP X pins σ Q (.ref e) ⟨h', g, dr, tk', os⟩
    obtain ⟨oe, fv, hoe, hc, hd, hdat, h1⟩ := M.obj
    have hns := M.ns
    obtain ⟨G', g1, g2⟩ := restrict h' fun b => decide (b ≠ e)
    have gk : ∀ b, b ≠ e → G'.get? b = h'.get? b := fun b hb => g1 b (decide_eq_true hb)
    have ge : G'.get? e = none := g2 e (by simp)
    have old : ∀ b o, hp.get? b = some o → G'.get? b = some o := fun b o q => (gk b (Nat.ne_of_lt (Nat.lt_of_lt_of_le (Heap.lt_size q) M.new))).trans (M.keep b o q)
    have ob : ObjOk X.prog X.w (upd H1 d (.xd [(("place" : Str), .int n)])) G' d (.xd [(("place" : Str), .int n)]) :=
      ⟨_, hns.at (fun o q => (gk d M.dne).trans q), fun f => relO_wr (v := .int n) ⟨tn, rfl⟩ f⟩
    have J : Inv X pins σ (upd H1 d (.xd [(("place" : Str), .int n)])) ⟨G', g, dr, tk', os⟩ := I1.laid (t' := tk') old M.dbig ob
    refine ⟨e, oe, fv, ⟨G', g, dr, tk', os⟩, _, .ref C, some d, rfl, J, fun b o q => ?_, ge, hoe, ⟨hc, hd⟩, hdat, h1, ?_, rfl, I1.bare, raises_own T.exC T.tyC, q1 d (I1.hok.fresh M.dbig)⟩
    · by_cases hb : b = e
      · have q' : G'.get? b = some o := q
        rw [hb, ge] at q'; cases q'
      · exact (gk b hb).symm.trans q
    · rw [upd_ne (Ne.symm M.dne)]
      exact I1.hok.fresh M.new
/-- raise Low(e) -/
def tRaiseWr (C : Addr) (W : WX) (ta : TA) : TS := fun _ σ H => tMkWr C ta σ H fun cls d H' => W cls d σ H'
theorem ps_raiseWr {a : Expr} {ta : TA} {W : WX} {p pos pos2 : Pos} {k : Nat} (hc : X.calm = true) (T : PySem.WrX.WrTxt X.prog X.K X.mg xn C fI) (hr : Room k X.A) (tk : Takes X W) (ha : PA X [a] ta) (hg : Gl X xn := by rfl) (hdb : (xn == ("__debug__" : Str)) = false := by decide)
    (he : starEach (a :: []) X.env = (false, eval a X.env) :: starEach [] X.env := by rfl) (hpl : (backTo pos (starEach [] X.env)).any (·.1) = false := by rfl) :
    PS X (.Raise (some (.Call (.Name xn p) [a] [] pos)) none pos2) (tRaiseWr C W ta) := ps_raise hc tk (pmk_wr T hr ha hg hdb he hpl)
/-- low.by, low the exception that the suite holds (at a; its class cls, its dict d) -/
def tByWr (C : Addr) (a : Addr) (cls : Value) (d : Option Addr) (te : TE) : TE := fun σ H Q => te σ H fun x H1 => x = .ref a ∧ cls = .ref C ∧ ∃ (dd : Addr) (v : V), d = some dd ∧ H1 dd = some (.xd [(("place" : Str), v)]) ∧ Q v H1
theorem pe_byWr {a : Addr} {oe : Obj} {cls : Value} {d : Option Addr} {pn : List (Addr × Obj)} {e : Expr} {te : TE} {pos : Pos} (T : PySem.WrX.WrTxt X.prog X.K X.mg xn C fI) (hz : Zc cls d oe) (hf : ∃ vs, oe.data = .fields vs) (he : PE (X.suite a ((a, oe) :: pn)) e te)
    (hb : attributeBase e "place" X.env (eval e X.env) = eval e X.env := by rfl) :
    PE (X.suite a ((a, oe) :: pn)) (.Attribute e "place" pos) (tByWr C a cls d te) := by
  refine ⟨fun pins s σ H Q I h => ?_⟩
  refine attr_of hb (thn (he.run pins s σ H _ I h) fun u s1 hh => ?_)
  obtain ⟨x, H1, I1, rx, ex, ec, dd, v, ed, ea, q⟩ := hh
  subst ex
  obtain rfl : u = Value.ref a := rx
  subst ec
  subst ed
  obtain ⟨ha, _⟩ := I1.pin (a, oe) (List.mem_append_left _ List.mem_cons_self)
  obtain ⟨vs, hd⟩ := hf
  have hx : ObjOk X.prog X.w H1 s1.heap dd (.xd [(("place" : Str), v)]) := I1.hok dd _ ea
  obtain ⟨mA, hns, hr⟩ := hx
  obtain ⟨od, ho, hl⟩ := lookIn_ns hns
  have l : List.lookup ("place" : Str) [(("place" : Str), v)] = some v := by simp [List.lookup]
  obtain ⟨u, hu, ru⟩ := RelO.some_of (v := v) (o := mA "place") (by rw [← l]; exact hr "place")
  have J : PySem.W.InstAt s1.heap a oe C (some od) := ⟨ha, hz.1, by unfold PySem.W.notCls; rw [hd] <;> rfl, by rw [hz.2]; exact ho⟩
  exact HandSPX.exc_get I1.kIn J T.ga T.gg T.exC (PySem.W.findObj_own T.hdC T.noN rfl (by rw [hl, hu])) (handed_of ru) ⟨v, H1, I1.tok _, ru, q⟩
end
end L2

namespace L2
open PySem PySem.Spec PyProof.Rows
/-- isinstance(e, c), e the error that the suite holds: its class at D, its dict d -/
def rIsX (K : PySem.W.Frag) (a : Addr) (cls : Value) (d : Option Addr) : List V → Hp → VK → Prop := fun xs H Q => ∃ (D : Addr) (c : V) (cv : Value) (b : Bool), xs = [.ref a, c] ∧ cls = .ref D ∧ ExcC K D ∧ (d = none ∨ ∃ dd fs, d = some dd ∧ H dd = some (.xd fs)) ∧ (∀ u, RelV c u → u = cv) ∧ PySem.W.kitOne K (.ref D) cv = some b ∧ Q (.bl b) H
theorem call_isX {X : Cx} {a : Addr} {cls : Value} {d : Option Addr} {oe : Obj} {pn : List (Addr × Obj)} (hz : Zc cls d oe) (hf : ∃ vs, oe.data = .fields vs) : CallR (X.suite a ((a, oe) :: pn)) (.builtin "isinstance") (rIsX X.K a cls d) := by
  intro pins s σ H xs us Q I r h
  obtain ⟨D, c, cv, b, rfl, rfl, C, hd, hcv, e, q⟩ := h
  cases r with
  | cons rx rr =>
    cases rr with
    | cons rt rr =>
      cases rr
      cases rx
      have ec := hcv _ rt
      subst ec
      obtain ⟨hget, _⟩ := I.pin (a, oe) (List.mem_append.mpr (.inl List.mem_cons_self))
      obtain ⟨vs, hv⟩ := hf
      have J : ∃ od, PySem.W.InstAt s.heap a oe D od := by
        rcases hd with rfl | ⟨dd, fs, rfl, hx⟩
        · obtain ⟨oc, od, oda, osl⟩ := oe
          obtain ⟨h1, h2⟩ := hz
          dsimp only at h1 h2 hv
          subst h1 h2 hv
          exact ⟨none, hget, rfl, rfl, trivial⟩
        · have hx : ObjOk X.prog X.w H s.heap dd (.xd fs) := I.hok dd _ hx
          obtain ⟨mA, hns, hr⟩ := hx
          obtain ⟨od, ho, hl⟩ := lookIn_ns hns
          exact ⟨some od, hget, hz.1, by unfold PySem.W.notCls; rw [hv] <;> rfl, by rw [hz.2]; exact ho⟩
      obtain ⟨od, J⟩ := J
      exact PySem.W.kia_one (PySem.W.kitx_exc (by obtain ⟨cd, hc, _⟩ := PySem.W.any_some C.hd; rw [hc]; rfl) C.hg C.hk C.hs C.ha C.hn C.ht C.hm) I.kIn J e (fun z => nomatch z) fun tk => ⟨.bl b, H, I.kept (t' := tk) fun _ _ z => z, rfl, q⟩
end L2
namespace L2
open PySem PySem.Spec PyProof.Rows
theorem flying_keeps {B h h' : Heap} {l : List Env} {e : Addr} {Z : Obj → Prop} (x : HandSPX.FlyingZ B l e Z h) (k : ∀ b o, h.get? b = some o → h'.get? b = some o) : HandSPX.FlyingZ B l e Z h' := by
  obtain ⟨h1, h2, h3, oe, vs, T, oT, ts, e1, e2, e3, e4, e5, e6, e7, e8, e9⟩ := x
  exact ⟨fun b o q => k b o (h1 b o q), h2, Heap.FunFrames.of_keeps (fun b o q _ => ⟨o, k b o q, rfl⟩) h3, oe, vs, T, oT, ts, k _ _ e1, e2, e3, e4, e5, e6, k _ _ e7, e8, e9⟩
/-- except (x1, x2): the clause takes what the body lets out -/
def wTup (K : PySem.W.Frag) (c1 c2 : Value) (ts : Addr → Value → Option Addr → TS) (D : Ends) : WX := fun cls d σ H => PySem.W.exmAny K cls [c1, c2] = some true ∧ ∀ a, H a = none → ts a cls d D σ H
section
variable {X : Cx} {x1 x2 : Str} {c1 c2 : Value} {body suite : List Stmt} {b₀ : Stmt} {n1 n2 tpos pos pos' : Pos} {kk : Nat} {tb : WX → TS} {ts : Addr → Value → Option Addr → TS}
theorem ps_try_tup (hs : X.stack = X.env :: X.outer) (hf : X.env.frame = some X.env.locals) (hc1 : Names X x1 c1) (hc2 : Names X x2 c2)
    (hb : ∀ (W : WX) (pn : List (Addr × Obj)) (xe : Value → Shared → Prop), Takes (X.tr pn xe) W → PassesOwn (model X.prog X.w) X.A X.env xe → PSs (X.tr pn xe) body (tb W))
    (hsu : ∀ (a : Addr) (oe : Obj) (cls : Value) (d : Option Addr) (pn : List (Addr × Obj)), Zc cls d oe → (∃ vs, oe.data = .fields vs) → PSs (X.suite a ((a, oe) :: pn)) (b₀ :: suite) (ts a cls d)) :
    PS X (.Try body [.ExceptHandler (some (.Tuple [.Name x1 n1, .Name x2 n2] kk tpos)) none (b₀ :: suite) pos'] [] [] pos) (fun D σ H => tb (wTup X.K c1 c2 ts D) D σ H) := by
  refine ⟨fun pins s σ H D I h => ?_⟩
  have ok := I.ok
  have frm : X.A.frames = some (X.env :: X.outer) := by rw [ok.frames, hs]
  let hd : List ExceptHandler := [.ExceptHandler (some (.Tuple [.Name x1 n1, .Name x2 n2] kk tpos)) none (b₀ :: suite) pos']
  let out : Value → Shared → Prop := fun e s₁ => wpAny (model X.prog X.w) X.A (noteFrame e X.env) (fun _ s₂ => wpAny (model X.prog X.w) X.A (setFlight e none) (fun _ s₃ => wpAny (model X.prog X.w) X.A (handleBy e X.env hd) (SP X pins D) X.xe s₃) X.xe s₂) X.xe s₁
  refine wpAny_Try_except (wpAny_mono ((hb (wTup X.K c1 c2 ts D) (X.pn ++ pins) out (fun u s' xx => ?_) PassesOwn.looking).run [] s σ H D (I.toTry _) h) (fun f s1 hsp => ?_) (fun e s1 he => he))
  · obtain ⟨a, B, sI, pins', σ', H', cls, d, rfl, J', nb, up, sky, na, os, ag, yes, go⟩ := xx
    have J := J'.ofTry ok
    rw [hs] at sky
    refine Sky.land Zc.steady frm hf sky fun h3 fl3 up3 => ?_
    have J3 : Inv X pins σ' H' { s' with heap := h3 } := J.landed nb fl3.1 (up.trans up3) os ag
    obtain ⟨oe, vs, he, hz, hd'⟩ := fl3.there
    have out : a ∉ frs (X.env :: X.outer) := fun hm => by
      obtain ⟨_, o', e', no⟩ := fl3.2.2.1.mem hm
      rw [he] at e'
      cases e'
      exact no _ hd'
    have nL : a ≠ X.env.locals := fun z => out (List.mem_filterMap.mpr ⟨X.env, List.mem_cons_self, by rw [hf, z]⟩)
    have nF : a ∉ X.fs := fun hm => by
      obtain ⟨e, he, q⟩ := List.mem_filterMap.mp hm
      exact out (List.mem_filterMap.mpr ⟨e, List.mem_cons_of_mem _ he, q⟩)
    have S3 := J3.suite he hd' na nL nF
    have nm : ∀ {x : Str} {c : Value} {p : Pos} {Q : Value → Shared → Prop} {E : Value → Shared → Prop}, Names X x c → Q c { s' with heap := h3 } → wpAny (model X.prog X.w) (X.A.mark (some (.ref a))) (eval (.Name x p) X.env) Q E { s' with heap := h3 } := fun {x c p Q E} hc q => by
      obtain ⟨hg, hdb, hm | ⟨hm, hv, hn⟩⟩ := hc
      · exact ld_glob (X := X.suite a ((a, oe) :: (X.pn ++ pins))) S3 hg hm q hdb
      · exact ld_blt (X := X.suite a ((a, oe) :: (X.pn ++ pins))) S3 hg hm hv q hn hdb
    have kp : ∀ q o, h3.get? q = some o → (h3.push { cls := .type "tuple", data := .seq [c1, c2].toArray }).get? q = some o := fun _ _ z => Heap.get?_push_of_some _ z
    have LT : PySem.W.Looks (model X.prog X.w) (h3.push { cls := .type "tuple", data := .seq [c1, c2].toArray }) (typeOf (.ref a)) cls := fun A Q E s k q => wpAny_typeOf_ref (k _ _ (kp _ _ he)) (by rw [hz.1]; exact q)
    refine wpAny_handleBy_cons (codeAny_handlers_test (wpAny_Tuple (wpAny_items_cons (nm hc1 (wpAny_items_cons (nm hc2 (wpAny_items_nil ⟨by show 2 ≤ sizeLine; decide, ?_⟩))))))) (by intro q; cases q)
    refine (PySem.W.exm_tup2 (J3.kIn.keeps kp) LT (Heap.get?_push_size h3 rfl) yes).here ?_
    refine codeAny_handlers_suite (HandSPX.lands_againZ (flying_keeps fl3 kp) fun h4 fl4 up4 => ?_)
    have J4 : Inv X pins σ' H' { s' with heap := h4 } := J.landed nb fl4.1 (((up.trans up3).trans (Heap.UpToSlots.of_keeps kp)).trans up4) os ag
    obtain ⟨oe4, vs4, he4, hz4, hd4⟩ := fl4.there
    refine wpAny_mono ((hsu a oe4 cls d (X.pn ++ pins) hz4 ⟨_, hd4⟩).run [] _ _ H' _ (J4.suite he4 hd4 na nL nF) (go a na)) (fun f s6 hsp => ?_) (fun _ _ z => False.elim z)
    cases f with
    | ret u =>
      obtain ⟨v6, σ6, H6, S6, r6, q6⟩ := hsp
      exact ⟨_, _, _, S6.unsuite ok, r6, q6⟩
    | _ =>
      obtain ⟨σ6, H6, S6, q6⟩ := hsp
      exact ⟨_, _, S6.unsuite ok, q6⟩
  · cases f with
    | next =>
      obtain ⟨σ', H', J', q⟩ := hsp
      exact wpAny_execs_nil ⟨σ', H', J'.ofTry ok, q⟩
    | ret u =>
      obtain ⟨v, σ', H', J', r, q⟩ := hsp
      exact ⟨v, σ', H', J'.ofTry ok, r, q⟩
    | _ =>
      obtain ⟨σ', H', J', q⟩ := hsp
      exact ⟨σ', H', J'.ofTry ok, q⟩
end
end L2
namespace L2
open PySem PySem.Spec PyProof.Rows
/-- t * k, k of any size up to ten thousand -/
def rRepW (K : PySem.W.Frag) : R2 := fun x y H Q => ∃ l k xs, x = .ref l ∧ y = .int k ∧ SqT K H l xs ∧ xs ≠ [] ∧ 2 ≤ k ∧ k ≤ 10000 ∧ xs.length ≤ 10 ∧ ∀ p, H p = none → Q (.ref p) (upd H p (.tup (List.replicate k.toNat xs).flatten))
theorem op_repW {X : Cx} : OpR X (binaryOp .Mult) (rRepW X.K) := by
  intro pins s σ H x y v u Q I rx ry h
  obtain ⟨l, k, xs, rfl, rfl, hT, hne, h1, h2, hz, q⟩ := h
  cases rx
  obtain ⟨t, rfl⟩ := ry
  obtain ⟨its, r, ⟨⟨cls, dd, data, sl⟩, ho, hc, n, hd⟩, hs⟩ := I.tuple hT
  simp only at hc hd
  subst hc hd
  have hle : its.length = xs.length := r.length.symm
  have hn : its ≠ [] := fun e => by
    rw [e] at hle
    exact hne (List.eq_nil_of_length_eq_zero hle.symm)
  have hi : its.toArray.isEmpty = false := by
    cases its with
    | nil => exact absurd rfl hn
    | cons a b => rfl
  have hsz : its.toArray.size = xs.length := by rw [List.size_toArray, hle]
  have hm : ((its.toArray.size : Nat) : Int) * k ≤ 100000 := by
    rw [hsz]
    have : ((xs.length : Nat) : Int) * k ≤ 10 * k := Int.mul_le_mul_of_nonneg_right (by omega) (by omega)
    omega
  have fl : k.toNat * xs.length ≤ 10000 * 10 := Nat.mul_le_mul (by omega) hz
  have flen : (List.replicate k.toNat its).flatten.length ≤ sizeLine := by
    rw [PyProof.Rows.lm_len_rep_flat, hle, sizeLine_eq]
    omega
  have big : (decide (k < -(2 ^ 63)) || decide (k ≥ 2 ^ 63)) = false := by
    rw [decide_eq_false (by omega), decide_eq_false (by omega)] <;> rfl
  have one : (its.toArray.isEmpty || k == 1) = false := by rw [hi, Bool.false_or]; exact beq_eq_false_iff_ne.mpr (by omega)
  have low : (decide (k ≤ 0) || its.toArray.isEmpty) = false := by rw [hi, Bool.or_false]; exact decide_eq_false (by omega)
  have many : Builtin.Tuple.tupleTooMany (((its.toArray.size : Nat) : Int) * k) = false := by
    unfold Builtin.Tuple.tupleTooMany
    rw [sizeLine_eq]
    exact decide_eq_false (by omega)
  have road := tuple_mulW l its.toArray n dd sl k t big one low (by omega) many (by rw [size_rep, List.size_toArray]; exact flen)
  refine wpAny_binaryOp_repeat_ref (T := "tuple") (U := "int") (by decide) ⟨_, ho, rfl⟩ (fun s' => typeIs_int s' k t) noFill_tuple_mul F.fills_int_mul F.slot_int_rmul repeat_tuple F.slot_int_index.lookup
    (call_meets F.slot_int_rmul (typeIs_int s k t) F.entry_int_rmul (F.args_int_rmul_2 _ _) (int_rmul_tuple k t l its.toArray n dd sl) ⟨ho, rfl, ⟨_, ho, rfl⟩, call_meets F.slot_tuple_mul ⟨_, ho, rfl⟩ F.entry_tuple_mul (F.args_tuple_mul_2 _ _) road ⟨ho, ?_⟩⟩)
  rw [size_rep]
  refine ⟨.ref s.heap.objs.size, _, I.laid (t' := s.toks) (o := .tup (List.replicate k.toNat xs).flatten) (fun b ob q => Heap.get?_push_of_some _ q) (Nat.le_refl _) ?_, rfl, q _ (I.hok.fresh (Nat.le_refl _))⟩
  exact ⟨by rw [PyProof.Rows.lm_len_rep_flat, sizeLine_eq]; omega, _, r.rep k.toNat, IsTup.new _ _⟩
end L2
namespace L2
open PySem PySem.Spec PyProof.Rows
section
variable {prog : Program} {w : World} {A : Around} {E : Value → Shared → Prop} {s : Shared} {l : Addr} {its : List Value} {ns : List Int} {xs : Array (Int × Tok)} {Q : Value → Shared → Prop}
theorem iter_intTup (hl : s.heap.IsTuple l (intItems xs))
    (h : ∀ s₂ : Shared, s₂ = { s with heap := s.heap.push { cls := .type "tuple_iterator", data := .fields #[.ref l, .int 0 0] } } →
      (s₂.heap.IsTupleIter s.heap.objs.size l 0 ∧ s₂.heap.IsTuple l (intItems xs)) → (∀ b ∈ [s.heap.objs.size, l], b < s₂.heap.objs.size) → l ≠ s.heap.objs.size → Q (.ref s.heap.objs.size) s₂) :
    wpAny (model prog w) A (pyIter (.ref l)) Q E s := by
  have hlt : l < s.heap.objs.size := by obtain ⟨_, e, _⟩ := hl; exact Heap.lt_size e
  refine wpAny_pyIter_tuple hl (h _ rfl ⟨⟨_, Heap.get?_push_size _ rfl, rfl, rfl⟩, hl.at fun o e => Heap.get?_push_of_some _ e⟩ (fun b hb => ?_) (Nat.ne_of_lt hlt))
  show b < (s.heap.push _).objs.size
  rw [Heap.size_push]
  rcases List.mem_cons.mp hb with rfl | hb
  · exact Nat.lt_succ_self _
  · rcases List.mem_cons.mp hb with rfl | hb
    · exact Nat.lt_succ_of_lt hlt
    · cases hb
theorem old_keptT {h' : Heap} (hk : ∀ b o, b ∉ [s.heap.objs.size] → (s.heap.push { cls := .type "tuple_iterator", data := .fields #[.ref l, .int 0 0] }).get? b = some o → h'.get? b = some o) :
    ∀ b o, s.heap.get? b = some o → h'.get? b = some o := fun b o e => by
  refine hk b o (fun hm => ?_) (Heap.get?_push_of_some _ e)
  rcases List.mem_cons.mp hm with e1 | hm
  · exact absurd (e1 ▸ Heap.lt_size e) (Nat.lt_irrefl _)
  · cases hm
theorem max_intTup (hh : A.handled = none) (hl : s.heap.IsTuple l (intItems xs)) (hne : 0 < xs.size)
    (h : ∀ v h' tk, (intItems xs)[argBest (fun i j => decide (numAt xs i > numAt xs j)) (xs.size - 1)]? = some v → (∀ b o, s.heap.get? b = some o → h'.get? b = some o) → Q v { s with heap := h', toks := tk }) :
    wpAny (model prog w) A (call (.builtin "max") [.ref l]) Q E s := by
  refine call_max_walk (iter_intTup hl fun s₂ e st hfp hlI => ?_)
  subst e
  refine ⟨_, _, _, _, _, _, _, rfl, Walks.tuple (A := A.in1) hh _ l hlI (intItems xs), st, hfp, by simpa [intItems] using hne, CmpOf.ints_gt (numAt xs) (fun _ _ => intItems_at), fun v h' tk hP hk => ?_⟩
  exact h v h' tk (by simpa [intItems] using hP) (old_keptT hk)
theorem min_intTup (hh : A.handled = none) (hl : s.heap.IsTuple l (intItems xs)) (hne : 0 < xs.size)
    (h : ∀ v h' tk, (intItems xs)[argBest (fun i j => decide (numAt xs i < numAt xs j)) (xs.size - 1)]? = some v → (∀ b o, s.heap.get? b = some o → h'.get? b = some o) → Q v { s with heap := h', toks := tk }) :
    wpAny (model prog w) A (call (.builtin "min") [.ref l]) Q E s := by
  refine call_min_walk (iter_intTup hl fun s₂ e st hfp hlI => ?_)
  subst e
  refine ⟨_, _, _, _, _, _, _, rfl, Walks.tuple (A := A.in1) hh _ l hlI (intItems xs), st, hfp, by simpa [intItems] using hne, CmpOf.ints_lt (numAt xs) (fun _ _ => intItems_at), fun v h' tk hP hk => ?_⟩
  exact h v h' tk (by simpa [intItems] using hP) (old_keptT hk)
theorem max_rawT (hh : A.handled = none) (hl : s.heap.IsTuple l its.toArray) (hi : IntsAre its ns) (hne : 0 < ns.length)
    (h : ∀ h' tk M t', (∀ b o, s.heap.get? b = some o → h'.get? b = some o) → M ∈ ns → (∀ a, a ∈ ns → a ≤ M) → Q (.int M t') { s with heap := h', toks := tk }) : wpAny (model prog w) A (call (.builtin "max") [.ref l]) Q E s := by
  obtain ⟨xs, e⟩ := hi.allInts.items
  have hn : numsOf (intItems xs).toList = ns := by rw [← e]; exact hi.numsOf
  rw [nums_intItems] at hn
  subst hn
  rw [e] at hl
  have hsz : 0 < xs.size := by simpa using hne
  refine max_intTup hh hl hsz fun v h' tk hv hk => ?_
  obtain ⟨t, rfl⟩ := intItems_at hv
  obtain ⟨h1, h2⟩ := argBest_gt (numAt xs) (xs.size - 1)
  refine h h' tk _ t hk ?_ fun a ha => ?_
  · rw [numAt_eq]; exact PySem.getD_mem (by rw [List.length_map, Array.length_toList]; omega)
  · obtain ⟨j, hj, rfl⟩ := mem_getD ha
    rw [List.length_map, Array.length_toList] at hj
    rw [← numAt_eq]; exact h2 j (by omega)
theorem min_rawT (hh : A.handled = none) (hl : s.heap.IsTuple l its.toArray) (hi : IntsAre its ns) (hne : 0 < ns.length)
    (h : ∀ h' tk M t', (∀ b o, s.heap.get? b = some o → h'.get? b = some o) → M ∈ ns → (∀ a, a ∈ ns → M ≤ a) → Q (.int M t') { s with heap := h', toks := tk }) : wpAny (model prog w) A (call (.builtin "min") [.ref l]) Q E s := by
  obtain ⟨xs, e⟩ := hi.allInts.items
  have hn : numsOf (intItems xs).toList = ns := by rw [← e]; exact hi.numsOf
  rw [nums_intItems] at hn
  subst hn
  rw [e] at hl
  have hsz : 0 < xs.size := by simpa using hne
  refine min_intTup hh hl hsz fun v h' tk hv hk => ?_
  obtain ⟨t, rfl⟩ := intItems_at hv
  obtain ⟨h1, h2⟩ := argBest_lt (numAt xs) (xs.size - 1)
  refine h h' tk _ t hk ?_ fun a ha => ?_
  · rw [numAt_eq]; exact PySem.getD_mem (by rw [List.length_map, Array.length_toList]; omega)
  · obtain ⟨j, hj, rfl⟩ := mem_getD ha
    rw [List.length_map, Array.length_toList] at hj
    rw [← numAt_eq]; exact h2 j (by omega)
end
section
variable {X : Cx}
/-- max(t), min(t) of a tuple of ints -/
def rMaxT (K : PySem.W.Frag) : List V → Hp → VK → Prop := fun vs H Q => ∃ (a : Addr) (ns : List Int), vs = [V.ref a] ∧ SqT K H a (ns.map V.int) ∧ 0 < ns.length ∧ ∀ m, m ∈ ns → (∀ y, y ∈ ns → y ≤ m) → Q (.int m) H
def rMinT (K : PySem.W.Frag) : List V → Hp → VK → Prop := fun vs H Q => ∃ (a : Addr) (ns : List Int), vs = [V.ref a] ∧ SqT K H a (ns.map V.int) ∧ 0 < ns.length ∧ ∀ m, m ∈ ns → (∀ y, y ∈ ns → m ≤ y) → Q (.int m) H
theorem cr_maxT (hc : X.calm = true) : CallR X (.builtin "max") (rMaxT X.K) := by
  intro pins s σ H vs us Q I r h
  obtain ⟨a, ns, rfl, hs, hne, q⟩ := h
  obtain ⟨its, rv, hl, _⟩ := I.tuple hs
  rw [Vals.ref1 r]
  exact max_rawT (I.ok.hd hc) hl rv.ints hne fun h' tk m t' hk h1 h2 => ⟨.int _, H, I.kept hk, ⟨_, rfl⟩, q m h1 h2⟩
theorem cr_minT (hc : X.calm = true) : CallR X (.builtin "min") (rMinT X.K) := by
  intro pins s σ H vs us Q I r h
  obtain ⟨a, ns, rfl, hs, hne, q⟩ := h
  obtain ⟨its, rv, hl, _⟩ := I.tuple hs
  rw [Vals.ref1 r]
  exact min_rawT (I.ok.hd hc) hl rv.ints hne fun h' tk m t' hk h1 h2 => ⟨.int _, H, I.kept hk, ⟨_, rfl⟩, q m h1 h2⟩
end
end L2
/-! for i, x in enumerate(t), t a tuple -/
namespace EnT
open PySem PySem.Spec PyProof.Rows L2
theorem made (l : Addr) (its : Array Value) :
    Meets (Builtin.«enumerate.__new__» ⟨[.type "enumerate", .ref l], []⟩) (fun _ R s => s.heap.IsTuple l its ∧
      R (.ok (.ret (.ref (s.heap.push { cls := .type "tuple_iterator", data := .fields #[.ref l, .int 0 0] }).objs.size)))
        { s with heap := (s.heap.push { cls := .type "tuple_iterator", data := .fields #[.ref l, .int 0 0] }).push { cls := .type "enumerate", data := .fields #[.none, .bool false, .ref s.heap.objs.size, rawInt 0, .none, .none] } }) :=
  .of_wp fun prog w A R s h => by
    obtain ⟨hp, g, d, tk, os⟩ := s
    obtain ⟨h1, h⟩ := h
    have sb := sub_enumerate
    have it : ∀ {A' : Around} {E : Value → Shared → Prop} {Q : Value → Shared → Prop}, Q (.ref hp.objs.size) ⟨hp.push { cls := .type "tuple_iterator", data := .fields #[.ref l, .int 0 0] }, g, d, tk, os⟩ → wpAny (model prog w) A' (pyIter (.ref l)) Q E ⟨hp, g, d, tk, os⟩ :=
      fun q => (begins_tuple l its).iter prog w _ _ ⟨hp, g, d, tk, os⟩ _ h1 q
    wp_walk using it
    refine wpAny_stack_any fun st => wpAny_pure ?_
    split
    · rename_i c _ _ _ _ _
      cases (c == Value.type "enumerate")
      all_goals
        wp_walk using it
        exact ⟨_, rfl, h⟩
    · wp_walk using it
      exact ⟨_, rfl, h⟩
section
variable {prog : Program} {w : World} {A : Around} {E : Value → Shared → Prop} {s : Shared}
theorem called {l : Addr} {its : Array Value} {Q : Value → Shared → Prop} (hT : s.heap.IsTuple l its)
    (h : ∀ h', IsEnum h' (s.heap.objs.size + 1) s.heap.objs.size 0 .none → h'.IsTupleIter s.heap.objs.size l 0 → h'.objs.size = s.heap.objs.size + 2 →
      (∀ b o, s.heap.get? b = some o → h'.get? b = some o) → Q (.ref (s.heap.objs.size + 1)) { s with heap := h' }) : wpAny (model prog w) A (call (.type "enumerate") [.ref l]) Q E s := by
  refine callType_new F.called_enumerate (by decide) (F.typeCall_enumerate_1 _) (F.newCall_enumerate_1 _) (fun obj => F.args_object_init_2 obj _) F.entry_enumerate_new (made l its) ⟨hT, ?_⟩
  have hz : (s.heap.push { cls := .type "tuple_iterator", data := .fields #[.ref l, .int 0 0] }).objs.size = s.heap.objs.size + 1 := Heap.size_push ..
  show _ ∧ _
  rw [hz]
  have he : IsEnum ((s.heap.push { cls := .type "tuple_iterator", data := .fields #[.ref l, .int 0 0] }).push { cls := .type "enumerate", data := .fields #[.none, .bool false, .ref s.heap.objs.size, rawInt 0, .none, .none] }) (s.heap.objs.size + 1) s.heap.objs.size 0 .none := by
    rw [← hz]
    exact Heap.get?_push_size _ rfl
  exact ⟨⟨_, he, rfl⟩, h _ he ⟨_, Heap.get?_push_of_some _ (Heap.get?_push_size _ rfl), rfl, rfl⟩ (by rw [Heap.size_push, hz]) fun b o x => Heap.get?_push_of_some _ (Heap.get?_push_of_some _ x)⟩
end
/-- the tuple at a, each item with its place in a new pair -/
def ItT (K : PySem.W.Frag) (a : Addr) : It :=
  ⟨fun i H => ∃ (xs : List V) (x : V), SqT K H a xs ∧ xs[i]? = some x, fun i H v H' => ∃ T x, v = .ref T ∧ H T = none ∧ H' = upd H T (.tup [.int (i : Nat), x]) ∧ ∀ xs, SqT K H a xs → xs[i]? = some x, fun i H => ∃ xs : List V, SqT K H a xs ∧ xs.length ≤ i⟩
theorem turn {P : Program} {w : World} {K : PySem.W.Frag} {elts : List Expr} {kk : Nat} {tpos : Pos} (a e it : Addr) (hai : a ≠ it) (hae : a ≠ e) (its : Array Value) :
    Turn P w K (.Tuple elts kk tpos) (ItT K a) [e, it] e (fun i h => (∃ old, IsEnum h e it ((i : Nat) : Int) old) ∧ h.IsTupleIter it a i ∧ e ≠ it) where
  mem := by simp
  obj := fun i h st b hb => by
    obtain ⟨⟨old, he⟩, ⟨o, ho, hc, hd⟩, _⟩ := st
    rcases (show b = e ∨ b = it by simpa using hb) with z | z
    · rw [z]; exact ⟨_, he, fun v q => nomatch q⟩
    · rw [z]; exact ⟨o, ho, fun v q => by rw [hd] at q; cases q⟩
  keep := fun i h h' st k => ⟨⟨st.1.choose, k e (by simp) _ st.1.choose_spec⟩, st.2.1.at fun o q => k it (by simp) o q, st.2.2⟩
  item := by
    intro X hP hw hK hc i pins s σ H E I hf st hg
    subst hP hw hK
    obtain ⟨⟨old, he⟩, hit, hne⟩ := st
    obtain ⟨xs, x, hq, hx⟩ := hg
    obtain ⟨ys, rv, p, hz⟩ := I.tuple hq
    obtain ⟨u, hu, ru⟩ := rv.get hx
    have hel : e < s.heap.objs.size := Heap.lt_size he
    have hil : it < s.heap.objs.size := by obtain ⟨_, q, _⟩ := hit; exact Heap.lt_size q
    have hul : i < ys.toArray.size := by
      have := (List.getElem?_eq_some_iff.mp hu).1
      simpa using this
    refine wpAny_pyNext_enum_itemD (Draws.tuple (A := X.A.in1) (show X.A.in1.handled = none from I.ok.hd hc) it a hai ys.toArray) he ⟨hit, p⟩ hul hne (by simp [hne, Ne.symm hae]) fun v h' tk hv ho hst hT hsz hk => ?_
    obtain rfl : v = u := by
      have hv' : ys.toArray[i]? = some v := hv
      rw [List.getElem?_toArray, hu] at hv'
      exact (Option.some.inj hv').symm
    refine ⟨_, rfl, wpAny_letOwnedTupleGo_enum (s := { s with heap := h', toks := tk + 1 }) ho fun h'' he' sb => ?_⟩
    have hT2 : h''.get? s.heap.objs.size = some { cls := .type "tuple", data := .seq #[.int i tk, v] } := (sb.2 _ (Nat.ne_of_gt hel)).trans hT
    have new : ObjOk X.prog X.w (upd H s.heap.objs.size (.tup [.int (i : Nat), x])) h'' s.heap.objs.size (.tup [.int (i : Nat), x]) :=
      ⟨by show 2 ≤ sizeLine; decide, [.int i tk, v], .cons ⟨_, rfl⟩ (.cons ru .nil), ⟨_, hT2, rfl, _, rfl⟩⟩
    have I1 : Inv X pins σ (upd H s.heap.objs.size (.tup [.int (i : Nat), x])) { s with heap := h'', toks := tk + 1 } :=
      I.turnedNew (ch := [e, it]) (fun b ob hb q => (sb.2 b (fun z => hb (by simp [z]))).trans (hk b ob (fun z => hb (by simp [z])) (fun z => hb (by simp [z])) q)) hf (Nat.le_refl _) new
    refine ⟨.ref s.heap.objs.size, _, I1, rfl, ⟨_, x, rfl, I.hok.fresh (Nat.le_refl _), rfl, fun zs hy => by rw [I.tuple_inj hy hq]; exact hx⟩, ⟨⟨v, ?_⟩, hst.1.at fun o q => (sb.2 it (Ne.symm hne)).trans q, hne⟩, fun b hb => ?_⟩
    · rw [show ((i + 1 : Nat) : Int) = (i : Int) + 1 by omega]
      exact he'
    · have hb' : b < s.heap.objs.size := by
        rcases (show b = e ∨ b = it by simpa using hb) with z | z
        · rw [z]; exact hel
        · rw [z]; exact hil
      rw [upd_ne (Nat.ne_of_lt hb')]
      exact (hf b hb).1
  done := by
    intro X hP hw hK hc i pins s σ H E I hf st hg
    subst hP hw hK
    obtain ⟨⟨old, he⟩, hit, hne⟩ := st
    obtain ⟨xs, hq, hx⟩ := hg
    obtain ⟨ys, rv, p, hz⟩ := I.tuple hq
    obtain ⟨f0, f1, f2, f3, f4, f5⟩ := hf it (by simp)
    have hl := rv.length
    have D : Draws X.prog X.w X.A.in1 it [it, a] i (fun _ _ => False) (fun j h => j = i ∧ h.IsTupleIter it a i ∧ h.IsTuple a ys.toArray) :=
      ⟨fun _ _ st => let ⟨o, ho, _⟩ := st.2.1; ⟨o, ho⟩, fun _ _ _ st hk => ⟨st.1, st.2.1.at fun o q => hk it (by simp) o q, st.2.2.at fun o q => hk a (by simp) o q⟩, fun j s Q E hj st _ => absurd st.1 (Nat.ne_of_lt hj),
        fun s Q E st hE => wpAny_nextOf_tuple_end (show X.A.in1.handled = none from I.ok.hd hc) st.2.1 st.2.2 (by simp; omega) hE⟩
    exact wpAny_pyNext_enum_endD D he ⟨rfl, hit, p⟩ fun h' eb => ⟨rfl, I.turned (t' := s.toks) (fun b o hb q => eb b o hb q) f0 f1 f3 f4 f5⟩
  self := fun A i s Q E st h => let ⟨⟨_, he⟩, _⟩ := st; wpAny_pyIter_enum he h
def iEnT (K : PySem.W.Frag) (ta : TA) : TI := fun σ H R => ta σ H fun vs H1 => ∃ a xs, vs = [.ref a] ∧ SqT K H1 a xs ∧ R (ItT K a) H1
theorem pi_enumT {X : Cx} {e : Expr} {ta : TA} {p pos tpos : Pos} {elts : List Expr} {kk : Nat} (hg : Gl X "enumerate") (hm : X.mg "enumerate" = none) (ha : PA X [e] ta) (hs : starEach [e] X.env = [(false, eval e X.env)] := by rfl) :
    PI X (.Tuple elts kk tpos) (.Call (.Name "enumerate" p) [e] [] pos) (iEnT X.K ta) := by
  refine ⟨fun pins s σ H R I h => ?_⟩
  refine Call_ (ld_blt I hg hm boot_enumerate (PyProof.Rows.callWith_type1 (thn (ha.run pos pins s σ H _ I h) fun us s1 ⟨vs, H1, I1, r1, q1⟩ => ?_) hs rfl))
  obtain ⟨a, xs, ex, hq, q⟩ := q1
  subst ex
  cases r1 with
  | cons r rr =>
    cases rr
    cases r
    obtain ⟨its, rv, p', hz⟩ := I1.tuple hq
    obtain ⟨ob, hob, _⟩ := id p'
    have hal : a < s1.heap.objs.size := Heap.lt_size hob
    refine called (its := its.toArray) p' fun h' he hit hsz hk => wpAny_pyIter_enum he ?_
    have I2 : Inv X pins σ H1 { s1 with heap := h' } := I1.kept (t' := s1.toks) hk
    refine ⟨s1.heap.objs.size + 1, [s1.heap.objs.size + 1, s1.heap.objs.size], _, _, H1, rfl, I2, turn a (s1.heap.objs.size + 1) s1.heap.objs.size (Nat.ne_of_lt hal) (Nat.ne_of_lt (Nat.lt_succ_of_lt hal)) its.toArray, ⟨⟨.none, he⟩, hit, Nat.succ_ne_self _⟩, fun b hb => ?_, q⟩
    have hle : s1.heap.objs.size ≤ b := by
      rcases (show b = s1.heap.objs.size + 1 ∨ b = s1.heap.objs.size by simpa using hb) with z | z
      · rw [z]; exact Nat.le_add_right _ _
      · rw [z]; exact Nat.le_refl _
    exact I1.fpOk hle (I1.hok.fresh hle)
/-- a loop over it -/
theorem for_enT {K : PySem.W.Frag} {a : Addr} {xs : List V} {g : TG} {tb : TS} {D : Ends} {σ : L2.St} {H : Hp} (Pv : Nat → L2.St → Hp → Prop) (h0 : Pv 0 σ H) (hq : ∀ i σ H, Pv i σ H → SqT K H a xs)
    (hs : ∀ (i : Nat) (x : V) (T : Addr) (σ : L2.St) (H : Hp), xs[i]? = some x → Pv i σ H → H T = none → g (.ref T) σ (upd H T (.tup [.int (i : Nat), x])) fun σ2 H2 => tb { D with nx := Pv (i + 1), ct := Pv (i + 1), bk := D.nx } σ2 H2) (hd : ∀ σ H, Pv xs.length σ H → D.nx σ H) :
    ∃ W : Nat → Nat → L2.St → Hp → Prop, (∃ m, W 0 m σ H) ∧ ∀ i m σ H, W i m σ H →
      ((ItT K a).stop i H ∧ D.nx σ H) ∨ ((ItT K a).go i H ∧ ∃ N : L2.St → Hp → Prop, (∀ σ' H', N σ' H' → ∃ m', m' < m ∧ W (i + 1) m' σ' H') ∧ ∀ v H', (ItT K a).yld i H v H' → g v σ H' fun σ2 H2 => tb { D with nx := N, ct := N, bk := D.nx } σ2 H2) := by
  refine ⟨fun i m σ H => m = xs.length - i ∧ i ≤ xs.length ∧ Pv i σ H, ⟨xs.length, rfl, Nat.zero_le _, h0⟩, ?_⟩
  rintro i m σ H ⟨rfl, hi, p⟩
  have hp := hq i σ H p
  by_cases hlt : i < xs.length
  · refine .inr ⟨⟨xs, xs[i], hp, by simp [hlt]⟩, Pv (i + 1), fun σ' H' p' => ⟨xs.length - (i + 1), by omega, rfl, hlt, p'⟩, fun v H' y => ?_⟩
    obtain ⟨T, x, rfl, hT, rfl, hx⟩ := y
    exact hs i x T σ H (hx xs hp) p hT
  · obtain rfl : i = xs.length := by omega
    exact .inl ⟨⟨xs, hp, Nat.le_refl _⟩, hd σ H p⟩
end EnT
namespace K06
open PySem L2 Pg RZ
def top (i : Nat) : Stmt := PySem.Challenge.pw_meetstores_k06_whole_polynomials.main.body.getD i (.Pass ⟨0, 0, 0, 0⟩)
/-- a def of the top, by its name -/
structure Dfn (K : PySem.W.Frag) (mg : Str → Option Value) (x : Str) (st : Stmt) (ps : List Str) (f : Addr) (fd : FuncData) : Prop where
  F : Fun K x x st f fd
  g : mg x = some (.ref f)
  b : Binds K fd ps []
/-- the built-in names that the top leaves alone -/
structure Bi (mg : Str → Option Value) : Prop where
  len : mg "len" = none
  int : mg "int" = none
  range : mg "range" = none
  tuple : mg "tuple" = none
  list : mg "list" = none
  isinstance : mg "isinstance" = none
  zip : mg "zip" = none
  type : mg "type" = none
  str : mg "str" = none
  bool : mg "bool" = none
  all : mg "all" = none
  min : mg "min" = none
  max : mg "max" = none
/-! ### the draws -/
def Keep (r : Addr) (H H' : Hp) : Prop := ∀ b o, b ≠ r → H b = some o → H' b = some o
theorem yes {σ : St} {H : Hp} {te : TE} {k : V → Hp → Prop} {N : Hp → Prop} (h : te σ H k) : tYes σ H fun b H3 => if b = true then te σ H3 k else N H3 := by
  show if true = true then te σ H k else N H
  rw [if_pos rfl]
  exact h
theorem Keep.refl (r : Addr) (H : Hp) : Keep r H H := fun _ _ _ h => h
theorem Keep.trans {r : Addr} {H H1 H2 : Hp} (a : Keep r H H1) (b : Keep r H1 H2) : Keep r H H2 := fun c o n h => b c o n (a c o n h)
theorem Keep.of {r : Addr} {H H1 : Hp} (a : Same H H1) : Keep r H H1 := fun c o _ h => a c o h
theorem Keep.upd {r : Addr} {H : Hp} {o : HO} : Keep r H (upd H r o) := fun b u n h => by rw [upd_ne n]; exact h
theorem Same.new {H : Hp} {p : Addr} {o : HO} (h : H p = none) : Same H (upd H p o) := fun b x e => by
  rw [upd_ne (ne_of_none e h)]
  exact e
theorem Keep.new {r : Addr} {H : Hp} {p : Addr} {o : HO} (h : H p = none) : Keep r H (L2.upd H p o) := Keep.of (Same.new h)
structure RowI (K : PySem.W.Frag) (H : Hp) (r sc : Addr) (ns : List Int) : Prop where
  row : ∃ n x z : Int, H r = some (.lst [.ref sc, .int n, .int x, .int z]) ∧ 0 ≤ n ∧ 0 ≤ x ∧ x < 2147483647
  stay : ∀ H', Keep r H H' → SqL K H' sc (ns.map V.int)
theorem RowI.scr {K : PySem.W.Frag} {H : Hp} {r sc : Addr} {ns : List Int} (R : RowI K H r sc ns) : SqL K H sc (ns.map V.int) := R.stay H (Keep.refl r H)
theorem Keep.seq {K : PySem.W.Frag} {r : Addr} {H H' : Hp} {a : Addr} {xs : List V} (e : Keep r H H') (n : a ≠ r) (h : SqL K H a xs) : SqL K H' a xs := by
  rcases h with (h | ⟨o, h⟩) | h
  · exact .inl (.inl (e _ _ n h))
  · exact .inl (.inr ⟨o, e _ _ n h⟩)
  · exact .inr h
theorem Keep.seqT {K : PySem.W.Frag} {r : Addr} {H H' : Hp} {a : Addr} {xs : List V} (e : Keep r H H') (n : a ≠ r) (h : SqT K H a xs) : SqT K H' a xs := by
  rcases h with (h | ⟨o, h⟩) | h
  · exact .inl (.inl (e _ _ n h))
  · exact .inl (.inr ⟨o, e _ _ n h⟩)
  · exact .inr h
theorem Same.seqT {K : PySem.W.Frag} {H H' : Hp} {a : Addr} {xs : List V} (e : Same H H') (h : SqT K H a xs) : SqT K H' a xs := by
  rcases h with (h | ⟨o, h⟩) | h
  · exact .inl (.inl (e _ _ h))
  · exact .inl (.inr ⟨o, e _ _ h⟩)
  · exact .inr h
theorem RowI.same {K : PySem.W.Frag} {H H' : Hp} {r sc : Addr} {ns : List Int} (R : RowI K H r sc ns) (e : Same H H') : RowI K H' r sc ns := by
  obtain ⟨⟨n, x, z, h, b⟩, s⟩ := R
  exact ⟨⟨n, x, z, e _ _ h, b⟩, fun H'' k => s H'' ((Keep.of e).trans k)⟩
theorem RowI.new {K : PySem.W.Frag} {H : Hp} {r sc p : Addr} {ns : List Int} (R : RowI K H r sc ns) (hp : H p = none) : p ≠ r := fun e => by
  obtain ⟨⟨_, _, _, h, _⟩, _⟩ := R
  rw [e, h] at hp
  cases hp
theorem Keep.free {r p : Addr} {H H' : Hp} (k : Keep r H H') (h : H' p = none) (n : p ≠ r) : H p = none := by
  cases e : H p with
  | none => rfl
  | some o => rw [k _ _ n e] at h; cases h
/-- another object than the row is written: the script is as it was ahead of it -/
theorem RowI.ups {K : PySem.W.Frag} {H H3 : Hp} {r sc p : Addr} {ns : List Int} {o : HO} (R : RowI K H3 r sc ns) (R0 : RowI K H r sc ns) (np : p ≠ r) (k : Keep r H (upd H3 p o)) : RowI K (upd H3 p o) r sc ns := by
  obtain ⟨⟨n, x, z, h, b⟩, s⟩ := R
  exact ⟨⟨n, x, z, by rw [upd_ne np.symm]; exact h, b⟩, fun H'' k' => R0.stay H'' (k.trans k')⟩
theorem RowI.set {K : PySem.W.Frag} {H : Hp} {r sc : Addr} {ns : List Int} (R : RowI K H r sc ns) {n x z : Int} (hn : 0 ≤ n) (h0 : 0 ≤ x) (h1 : x < 2147483647) : RowI K (upd H r (.lst [.ref sc, .int n, .int x, .int z])) r sc ns :=
  ⟨⟨n, x, z, upd_same, hn, h0, h1⟩, fun H'' k => R.stay H'' (Keep.upd.trans k)⟩
theorem RowI.start {K : PySem.W.Frag} {H : Hp} {r sc : Addr} {ns : List Int} {x : Int} (hS : SqL K H sc (ns.map V.int)) (hr : H r = none) (h0 : 0 ≤ x) (h1 : x < 2147483647) : RowI K (upd H r (.lst [.ref sc, .int 0, .int x, .int 0])) r sc ns := by
  refine ⟨⟨0, x, 0, upd_same, Int.le_refl 0, h0, h1⟩, fun H' k => ?_⟩
  rcases hS with (h | ⟨o, h⟩) | h
  · have n : sc ≠ r := ne_of_none h hr
    exact .inl (.inl (k _ _ n (by rw [upd_ne n]; exact h)))
  · have n : sc ≠ r := ne_of_none h hr
    exact .inl (.inr ⟨o, k _ _ n (by rw [upd_ne n]; exact h)⟩)
  · exact .inr h
/-- bytes as values -/
def bV (l : List Nat) : List V := l.map fun (n : Nat) => V.int (n : Int)
theorem bV_len (l : List Nat) : (bV l).length = l.length := List.length_map _
theorem bV_app (l : List Nat) (u : Nat) : bV (l ++ [u]) = bV l ++ [.int (u : Int)] := by
  unfold bV
  rw [List.map_append]
  rfl
theorem bV_get {l : List Nat} {i : Nat} {x : V} (h : (bV l)[i]? = some x) : ∃ n, l[i]? = some n ∧ x = .int (n : Int) := by
  unfold bV at h
  rw [List.getElem?_map] at h
  cases e : l[i]? with
  | none => rw [e] at h; cases h
  | some n => rw [e] at h; exact ⟨n, rfl, (Option.some.inj h).symm⟩
theorem bV_at {l : List Nat} {i n : Nat} (h : l[i]? = some n) : (bV l)[i]? = some (.int (n : Int)) := by
  unfold bV
  rw [List.getElem?_map, h]
  rfl
def Byt (l : List Nat) : Prop := ∀ o, o ∈ l → o < 256
theorem bV_append (l m : List Nat) : bV l ++ bV m = bV (l ++ m) := by unfold bV; rw [List.map_append]
abbrev s_law_taken : Stmt := top 25
abbrev n_law_taken : List Str := ["row", "many", "found", "cell"]
abbrev p_law_taken : List Str := ["row", "many"]
theorem sc_law_taken : FnScope n_law_taken p_law_taken (defScope s_law_taken) := ⟨rfl, rfl, rfl, by decide +kernel, rfl, by decide +kernel, by decide +kernel⟩
def spTaken (K : PySem.W.Frag) : Sp := fun vs H Q _ => ∃ (r sc : Addr) (ns : List Int) (many : Int), vs = [.ref r, .int many] ∧ RowI K H r sc ns ∧ 0 < many ∧ many < 9223372036854775808 ∧
  ∀ (v : Int) (H' : Hp), 0 ≤ v → v < many → RowI K H' r sc ns → Keep r H H' → Q (.int v) H'
section
variable {P : Program} {w : World} {K : PySem.W.Frag} {mg : Str → Option Value} {base : Heap}
theorem ok_taken {f : Addr} {fd : FuncData} (D : Dfn K mg "_law_taken" s_law_taken p_law_taken f fd) (B : Bi mg) : FnOk P w K mg base CX0 1 f fd p_law_taken (spTaken K) := by
  refine D.F.ok sc_law_taken (fun vs H Q E h => ?_) (fun cdv A outer s H vs Q E hr h => ?_)
  · obtain ⟨r, sc, ns, many, rfl, _⟩ := h
    rfl
  · obtain ⟨r, sc, ns, many, rfl, R, m0, m1, q⟩ := h
    have nd := sc_law_taken.nd
    refine ⟨_, pss_cons (ps_if (pt_cmpR op_gt (pe_ix ix_list (pv 0) pe_int (fun _ _ => rfl)) pe_int (nomark _))
        (pss_cons (ps_set (i := 2) nd rfl (.inl rfl) (pe_op op_modN (pe_callTy call_int1 (by rfl) B.int (by decide +kernel) (pa_cons (pe_ix ix_list (pv 0) pe_int (fun _ _ => rfl)) pa_nil)) (pv 1)))
        (pss_cons (ps_asg (pe_op op_fdivW (pe_ix ix_list (pv 0) pe_int (fun _ _ => rfl)) (pv 1)) (pg_sub (pv 0) pe_int set_list))
        (pss_one (ps_ret (pv 2))))) pss_nil)
      (pss_cons (ps_asg (pe_op op_add (pe_ix ix_list (pv 0) pe_int (fun _ _ => rfl)) pe_int) (pg_sub (pv 0) pe_int set_list))
      (pss_cons (ps_if (pt_cmpR op_gt (pe_ix ix_list (pv 0) pe_int (fun _ _ => rfl)) (pe_callB call_len_seq (by rfl) B.len PySem.boot_len (pa_cons (pe_ix ix_list (pv 0) pe_int (fun _ _ => rfl)) pa_nil)) (nomark _))
        (pss_cons (ps_asg (pe_op op_modN (pe_callTy call_int1 (by rfl) B.int (by decide +kernel) (pa_cons (pe_op op_add (pe_op op_mul (pe_ix ix_list (pv 0) pe_int (fun _ _ => rfl)) pe_int) pe_int) pa_nil)) pe_int) (pg_sub (pv 0) pe_int set_list))
        (pss_one (ps_ret (pe_op op_modN (pe_callTy call_int1 (by rfl) B.int (by decide +kernel) (pa_cons (pe_op op_fdivN (pe_ix ix_list (pv 0) pe_int (fun _ _ => rfl)) pe_int) pa_nil)) (pv 1))))) pss_nil)
      (pss_cons (ps_set (i := 3) nd rfl (.inl rfl) (pe_ix ix_list (pe_ix ix_list (pv 0) pe_int (fun _ _ => rfl)) (pe_op op_sub (pe_ix ix_list (pv 0) pe_int (fun _ _ => rfl)) pe_int) (fun _ _ => rfl)))
      (pss_cons (ps_asg (pe_op op_modN (pe_callTy call_int1 (by rfl) B.int (by decide +kernel) (pa_cons (pe_op op_add (pe_op op_add (pe_op op_mul (pe_ix ix_list (pv 0) pe_int (fun _ _ => rfl)) pe_int) (pv 3)) pe_int) pa_nil)) pe_int) (pg_sub (pv 0) pe_int set_list))
      (pss_cons (ps_if (pt_cmpR op_ge (pv 3) (pe_op op_pow pe_int pe_int) (nomark _))
        (pss_one (ps_asg (pe_op op_fdivW (pv 3) (pv 1)) (pg_sub (pv 0) pe_int set_list))) pss_nil)
      (pss_one (ps_ret (pe_op op_modN (pe_callTy call_int1 (by rfl) B.int (by decide +kernel) (pa_cons (pv 3) pa_nil)) (pv 1))))))))), ?_⟩
    obtain ⟨⟨n, x, z, hrow, hn, hx0, hx1⟩, hst⟩ := id R
    have g0 : ∀ (a b c d : V), atI [a, b, c, d] (0 : Int) = some a := fun _ _ _ _ => rfl
    have g1 : ∀ (a b c d : V), atI [a, b, c, d] (1 : Int) = some b := fun _ _ _ _ => rfl
    have g2 : ∀ (a b c d : V), atI [a, b, c, d] (2 : Int) = some c := fun _ _ _ _ => rfl
    have g3 : ∀ (a b c d : V), atI [a, b, c, d] (3 : Int) = some d := fun _ _ _ _ => rfl
    -- if row[3] > 0
    refine ⟨_, rfl, r, _, _, _, rfl, rfl, SqL.of hrow, g3 _ _ _ _, _, _, rfl, rfl, _, rfl, ?_⟩
    by_cases hz : 0 < z
    · rw [decide_eq_true hz]
      refine iteT ?_
      refine ⟨_, rfl, r, _, _, _, rfl, rfl, SqL.of hrow, g3 _ _ _ _, .inl ⟨_, rfl, _, rfl, _, _, rfl, rfl, (by omega), ?_⟩⟩
      refine ⟨_, rfl, r, _, _, _, rfl, rfl, SqL.of hrow, g3 _ _ _ _, _, rfl, _, _, rfl, rfl, wide_div (b := 63) m0 (by omega) (by decide) (by decide), ?_⟩
      refine ⟨_, rfl, r, _, _, 3, rfl, rfl, hrow, rfl, ?_⟩
      refine ⟨_, rfl, ?_⟩
      refine q _ _ ?_ ?_ (R.set hn hx0 hx1) Keep.upd
      · exact Int.fmod_nonneg_of_pos _ m0
      · exact Int.fmod_lt_of_pos _ m0
    · rw [decide_eq_false hz]
      refine iteF ?_
      -- row[1] = row[1] + 1
      refine ⟨_, rfl, r, _, _, _, rfl, rfl, SqL.of hrow, g1 _ _ _ _, _, _, rfl, rfl, _, rfl, r, _, _, 1, rfl, rfl, hrow, rfl, ?_⟩
      have R1 : RowI K (upd H r (.lst [.ref sc, .int (n + 1), .int x, .int z])) r sc ns := R.set (by omega) hx0 hx1
      have k1 : Keep r H (upd H r (.lst [.ref sc, .int (n + 1), .int x, .int z])) := Keep.upd
      show tSeq _ _ _ _ (upd H r (.lst [.ref sc, .int (n + 1), .int x, .int z]))
      have h1 : upd H r (.lst [.ref sc, .int (n + 1), .int x, .int z]) r = some (.lst [.ref sc, .int (n + 1), .int x, .int z]) := upd_same
      generalize upd H r (.lst [.ref sc, .int (n + 1), .int x, .int z]) = H1 at R1 k1 h1
      -- if row[1] > len(row[0])
      refine ⟨_, rfl, r, _, _, _, rfl, rfl, SqL.of h1, g1 _ _ _ _, _, rfl, r, _, _, _, rfl, rfl, SqL.of h1, g0 _ _ _ _, sc, _, rfl, .inl R1.scr, _, _, rfl, rfl, _, rfl, ?_⟩
      rw [List.length_map]
      by_cases hl : (ns.length : Int) < n + 1
      · rw [decide_eq_true hl]
        refine iteT ?_
        refine ⟨_, rfl, r, _, _, _, rfl, rfl, SqL.of h1, g2 _ _ _ _, _, _, rfl, rfl, .inl ⟨by omega, by omega⟩, _, _, rfl, rfl, .inl ⟨_, rfl, _, _, rfl, rfl, (by show (2147483647 : Int) ≠ 0; decide), ?_⟩⟩
        refine ⟨_, rfl, r, _, _, 2, rfl, rfl, h1, rfl, ?_⟩
        have R2 : RowI K (upd H1 r (.lst [.ref sc, .int (n + 1), .int ((x * 48271 + 11).fmod 2147483647), .int z])) r sc ns := R1.set (by omega) (Int.fmod_nonneg_of_pos _ (by decide)) (Int.fmod_lt_of_pos _ (by decide))
        have h2 : upd H1 r (.lst [.ref sc, .int (n + 1), .int ((x * 48271 + 11).fmod 2147483647), .int z]) r = some _ := upd_same
        refine ⟨_, rfl, r, _, _, _, rfl, rfl, SqL.of h2, g2 _ _ _ _, _, _, rfl, rfl, ⟨by decide, by decide⟩, .inl ⟨_, rfl, _, rfl, _, _, rfl, rfl, by omega, ?_⟩⟩
        exact q _ _ (Int.fmod_nonneg_of_pos _ m0) (Int.fmod_lt_of_pos _ m0) R2 (k1.trans Keep.upd)
      · rw [decide_eq_false hl]
        refine iteF ?_
        have hlt : n.toNat < ns.length := by omega
        -- cell = row[0][row[1] - 1]
        refine ⟨_, rfl, r, _, _, _, rfl, rfl, SqL.of h1, g0 _ _ _ _, _, rfl, r, _, _, _, rfl, rfl, SqL.of h1, g1 _ _ _ _, _, _, rfl, rfl, sc, _, _, _, rfl, rfl, R1.scr, at_of (j := n.toNat) (v := V.int ns[n.toNat]) (by omega) (by rw [List.getElem?_map, List.getElem?_eq_getElem hlt]; rfl), ?_⟩
        generalize ns[n.toNat] = c
        refine ⟨_, rfl, r, _, _, _, rfl, rfl, SqL.of h1, g2 _ _ _ _, _, _, rfl, rfl, .inl ⟨by omega, by omega⟩, _, rfl, _, _, rfl, rfl, _, _, rfl, rfl, .inl ⟨_, rfl, _, _, rfl, rfl, (by show (2147483647 : Int) ≠ 0; decide), ?_⟩⟩
        refine ⟨_, rfl, r, _, _, 2, rfl, rfl, h1, rfl, ?_⟩
        have R2 : RowI K (upd H1 r (.lst [.ref sc, .int (n + 1), .int ((x * 48271 + c + 11).fmod 2147483647), .int z])) r sc ns := R1.set (by omega) (Int.fmod_nonneg_of_pos _ (by decide)) (Int.fmod_lt_of_pos _ (by decide))
        have h2 : upd H1 r (.lst [.ref sc, .int (n + 1), .int ((x * 48271 + c + 11).fmod 2147483647), .int z]) r = some _ := upd_same
        have k2 : Keep r H (upd H1 r (.lst [.ref sc, .int (n + 1), .int ((x * 48271 + c + 11).fmod 2147483647), .int z])) := k1.trans Keep.upd
        refine ⟨_, rfl, _, _, rfl, rfl, ⟨by decide, by decide, by decide⟩, _, _, rfl, rfl, _, rfl, ?_⟩
        by_cases hc : (10 : Int) ^ (18 : Int).toNat ≤ c
        · rw [decide_eq_true hc]
          refine iteT ?_
          refine ⟨_, rfl, _, rfl, _, _, rfl, rfl, wide_div (b := 63) m0 (by omega) (by decide) (by decide), _, rfl, r, _, _, 3, rfl, rfl, h2, rfl, ?_⟩
          refine ⟨_, rfl, .inl ⟨_, rfl, _, rfl, _, _, rfl, rfl, by omega, ?_⟩⟩
          exact q _ _ (Int.fmod_nonneg_of_pos _ m0) (Int.fmod_lt_of_pos _ m0) (R2.set (by omega) (Int.fmod_nonneg_of_pos _ (by decide)) (Int.fmod_lt_of_pos _ (by decide))) (k2.trans Keep.upd)
        · rw [decide_eq_false hc]
          refine iteF ?_
          refine ⟨_, rfl, .inl ⟨_, rfl, _, rfl, _, _, rfl, rfl, by omega, ?_⟩⟩
          exact q _ _ (Int.fmod_nonneg_of_pos _ m0) (Int.fmod_lt_of_pos _ m0) R2 k2
end
section
variable {P : Program} {w : World} {K : PySem.W.Frag} {mg : Str → Option Value} {base : Heap}
abbrev s_law_pick : Stmt := top 26
abbrev n_law_pick : List Str := ["row", "things"]
abbrev p_law_pick : List Str := ["row", "things"]
theorem sc_law_pick : FnScope n_law_pick p_law_pick (defScope s_law_pick) := ⟨rfl, rfl, rfl, by decide +kernel, rfl, by decide +kernel, by decide +kernel⟩
def spPick (K : PySem.W.Frag) : Sp := fun vs H Q _ => ∃ (r sc : Addr) (ns : List Int) (a : Addr) (xs : List V), vs = [.ref r, .ref a] ∧ RowI K H r sc ns ∧ SqL K H a xs ∧ a ≠ r ∧ 0 < xs.length ∧ xs.length < 1073741824 ∧
  ∀ (v : V) (H' : Hp), v ∈ xs → RowI K H' r sc ns → Keep r H H' → Q v H'
theorem ok_pick {f fT : Addr} {fd fdT : FuncData} (D : Dfn K mg "_law_pick" s_law_pick p_law_pick f fd) (B : Bi mg) (DT : Dfn K mg "_law_taken" s_law_taken p_law_taken fT fdT) : FnOk P w K mg base CX0 2 f fd p_law_pick (spPick K) := by
  have GT : FnOk P w K mg base CX0 1 fT fdT p_law_taken (spTaken K) := ok_taken DT B
  refine D.F.ok sc_law_pick (fun vs H Q E h => ?_) (fun cdv A outer s H vs Q E hr h => ?_)
  · obtain ⟨r, sc, ns, a, xs, rfl, _⟩ := h
    rfl
  · obtain ⟨r, sc, ns, a, xs, rfl, R, hs, hne, hl0, hl1, q⟩ := h
    refine ⟨_, pss_one (ps_ret (pe_ix ix_list (pv 1) (pe_call GT hr (by rfl) DT.g DT.F.kp DT.b .nil pass0 (pa_cons (pv 0) (pa_cons (pe_callB call_len_seq (by rfl) B.len PySem.boot_len (pa_cons (pv 1) pa_nil)) pa_nil))) (fun _ _ => rfl))), ?_⟩
    refine ⟨_, rfl, _, rfl, _, rfl, a, xs, rfl, .inl hs, r, sc, ns, _, rfl, R, by omega, by omega, fun v H' v0 v1 R' k => ?_⟩
    have hlt : v.toNat < xs.length := by omega
    refine ⟨a, xs, v, xs[v.toNat], rfl, rfl, k.seq hne hs, at_of (j := v.toNat) (by omega) (List.getElem?_eq_getElem hlt), ?_⟩
    exact q _ _ (List.getElem_mem hlt) R' k
end
/-! ### bits -/
theorem xN (a b : Nat) : Builtin.bitXor (a : Int) (b : Int) = ((a ^^^ b : Nat) : Int) := by
  rw [Bits.bitXor_pp (by omega) (by omega), Int.toNat_natCast, Int.toNat_natCast]
theorem aN (a b : Nat) : Builtin.bitAnd (a : Int) (b : Int) = ((a &&& b : Nat) : Int) := by
  rw [PyProof.Rows.bitAnd_pp (by omega) (by omega), Int.toNat_natCast, Int.toNat_natCast]
theorem oN (a b : Nat) : Builtin.bitOr (a : Int) (b : Int) = ((a ||| b : Nat) : Int) := by
  rw [Bits.bitOr_pp (by omega) (by omega), Int.toNat_natCast, Int.toNat_natCast]
theorem shlN (a j : Nat) : (a : Int) * 2 ^ (j : Int).toNat = ((a <<< j : Nat) : Int) := by
  rw [Int.toNat_natCast, Nat.shiftLeft_eq]
  simp
theorem shrN (a j : Nat) : (a : Int) / 2 ^ (j : Int).toNat = ((a >>> j : Nat) : Int) := by
  rw [Int.toNat_natCast, Nat.shiftRight_eq_div_pow]
  simp
theorem nI {a : Nat} {i : Int} (h : i = (a : Int)) : V.int i = V.int (a : Int) := by rw [h]
theorem bit_test (b i : Nat) : V.bl (decide (V.int (Builtin.bitAnd ((b : Int) / 2 ^ (i : Int).toNat) 1) = V.int 1)) = V.bl (decide ((b >>> i) &&& 1 = 1)) := by
  have e : Builtin.bitAnd ((b : Int) / 2 ^ (i : Int).toNat) 1 = (((b >>> i) &&& 1 : Nat) : Int) := by
    rw [shrN]
    exact aN _ 1
  rw [e]
  congr 1
  rw [decide_eq_decide]
  constructor
  · intro h
    injection h with h
    omega
  · intro h
    rw [h]
    rfl
theorem take_more {α : Type} : ∀ {l : List α} {i : Nat} {x : α}, l[i]? = some x → l.take (i + 1) = l.take i ++ [x]
  | [], i, x, h => by simp at h
  | a :: l, 0, x, h => by
    have e : a = x := Option.some.inj h
    subst e
    rfl
  | a :: l, i + 1, x, h => by
    have ih := take_more (l := l) (i := i) (x := x) h
    show a :: l.take (i + 1) = a :: l.take i ++ [x]
    rw [ih]
    rfl
theorem foldl_more {α β : Type} {f : β → α → β} {b : β} {l : List α} {i : Nat} {x : α} (h : l[i]? = some x) : (l.take (i + 1)).foldl f b = f ((l.take i).foldl f b) x := by
  rw [take_more h, List.foldl_append]
  rfl
theorem take_all {α : Type} (l : List α) : l.take l.length = l := List.take_length
theorem int_eq0 (a : Nat) : V.bl (decide (V.int (a : Int) = V.int 0)) = V.bl (decide (a = 0)) := by
  congr 1
  rw [decide_eq_decide]
  constructor
  · intro h
    injection h with h
    omega
  · intro h
    rw [h]
    rfl
theorem int_eqN (a b : Nat) : V.bl (decide (V.int (a : Int) = V.int (b : Int))) = V.bl (decide (a = b)) := by
  congr 1
  rw [decide_eq_decide]
  constructor
  · intro h
    injection h with h
    omega
  · intro h
    rw [h]
theorem int_neN (a b : Nat) : V.bl (!decide (V.int (a : Int) = V.int (b : Int))) = V.bl (decide (a ≠ b)) := by
  have := int_eqN a b
  injection this with h
  rw [h]
  by_cases e : a = b <;> simp [e]
/-! ### data: alike -/
/-- plain data of at most such a depth -/
def Pl : Nat → PyData → Prop
  | _, .none => True
  | _, .bool _ => True
  | _, .int _ => True
  | _, .str x => PyData.canLay0 (.str x) = true
  | n + 1, .list xs => xs.length ≤ 100000 ∧ ∀ x, x ∈ xs → Pl n x
  | n + 1, .tuple xs => xs.length ≤ 100000 ∧ ∀ x, x ∈ xs → Pl n x
  | 0, .list _ => False
  | 0, .tuple _ => False
  | _, .dict _ => False
theorem Pl.lay : ∀ (n : Nat) (d : PyData), Pl n d → PyData.canLay0 d = true ∧ PyData.depth d ≤ n
  | n, .none, _ => ⟨by simp only [PyData.canLay0], by simp only [PyData.depth]; omega⟩
  | n, .bool _, _ => ⟨by simp only [PyData.canLay0], by simp only [PyData.depth]; omega⟩
  | n, .int _, _ => ⟨by simp only [PyData.canLay0], by simp only [PyData.depth]; omega⟩
  | n, .str x, h => ⟨by cases n <;> exact h, by simp only [PyData.depth]; omega⟩
  | n + 1, .list xs, h => by
    obtain ⟨_, h⟩ := h
    have : ∀ ys : List PyData, (∀ y, y ∈ ys → Pl n y) → PyData.canLayAll0 ys = true ∧ PyData.depthAll ys ≤ n := by
      intro ys
      induction ys with
      | nil => intro _; exact ⟨by simp only [PyData.canLayAll0], by simp only [PyData.depthAll]; omega⟩
      | cons y ys ih =>
        intro hy
        obtain ⟨a, b⟩ := Pl.lay n y (hy y List.mem_cons_self)
        obtain ⟨c, e⟩ := ih fun z hz => hy z (List.mem_cons_of_mem _ hz)
        refine ⟨by simp only [PyData.canLayAll0, a, c, Bool.and_self], ?_⟩
        simp only [PyData.depthAll]
        omega
    obtain ⟨a, b⟩ := this xs h
    refine ⟨by simp only [PyData.canLay0, a], ?_⟩
    simp only [PyData.depth]
    omega
  | n + 1, .tuple xs, h => by
    obtain ⟨_, h⟩ := h
    have : ∀ ys : List PyData, (∀ y, y ∈ ys → Pl n y) → PyData.canLayAll0 ys = true ∧ PyData.depthAll ys ≤ n := by
      intro ys
      induction ys with
      | nil => intro _; exact ⟨by simp only [PyData.canLayAll0], by simp only [PyData.depthAll]; omega⟩
      | cons y ys ih =>
        intro hy
        obtain ⟨a, b⟩ := Pl.lay n y (hy y List.mem_cons_self)
        obtain ⟨c, e⟩ := ih fun z hz => hy z (List.mem_cons_of_mem _ hz)
        refine ⟨by simp only [PyData.canLayAll0, a, c, Bool.and_self], ?_⟩
        simp only [PyData.depthAll]
        omega
    obtain ⟨a, b⟩ := this xs h
    refine ⟨by simp only [PyData.canLay0, a], ?_⟩
    simp only [PyData.depth]
    omega
  | 0, .list _, h => nomatch h
  | 0, .tuple _, h => nomatch h
  | 0, .dict _, h => nomatch h
  | _ + 1, .dict _, h => nomatch h
theorem Pl.shaped {n : Nat} {d : PyData} (h : Pl n d) (hn : n ≤ 64) : SeqAt.shaped d = true := by
  obtain ⟨a, b⟩ := Pl.lay n d h
  unfold SeqAt.shaped
  rw [a, decide_eq_true (Nat.le_trans b hn)]
  rfl
theorem Pl.succ : ∀ (n : Nat) (d : PyData), Pl n d → Pl (n + 1) d
  | n, .none, _ => True.intro
  | n, .bool _, _ => True.intro
  | n, .int _, _ => True.intro
  | n, .str x, h => by cases n <;> exact h
  | n + 1, .list xs, h => ⟨h.1, fun x hx => Pl.succ n x (h.2 x hx)⟩
  | n + 1, .tuple xs, h => ⟨h.1, fun x hx => Pl.succ n x (h.2 x hx)⟩
  | 0, .list _, h => nomatch h
  | 0, .tuple _, h => nomatch h
  | 0, .dict _, h => nomatch h
  | _ + 1, .dict _, h => nomatch h
mutual
theorem Dp.same {K : PySem.W.Frag} {H H' : Hp} (s : Same H H') : ∀ (d : PyData) (x : V), Dp K H x d → Dp K H' x d
  | .none, _, h => by cases h; exact .non
  | .bool _, _, h => by cases h; exact .bl _
  | .int _, _, h => by cases h; exact .int _
  | .str _, _, h => by cases h; exact .str _
  | .list ds, _, h => by
    cases h with
    | lst hs ha => exact .lst (s.seq hs) (DpAll.same s ds _ ha)
  | .tuple ds, _, h => by
    cases h with
    | tup hs ha => exact .tup (Same.seqT s hs) (DpAll.same s ds _ ha)
  | .dict _, _, h => by cases h
theorem DpAll.same {K : PySem.W.Frag} {H H' : Hp} (s : Same H H') : ∀ (ds : List PyData) (xs : List V), DpAll K H xs ds → DpAll K H' xs ds
  | [], _, h => by cases h; exact .nil
  | d :: ds, _, h => by
    cases h with
    | cons h1 h2 => exact .cons (Dp.same s d _ h1) (DpAll.same s ds _ h2)
end
theorem DpAll.len {K : PySem.W.Frag} {H : Hp} : ∀ {ds : List PyData} {xs : List V}, DpAll K H xs ds → xs.length = ds.length
  | [], _, h => by cases h; rfl
  | d :: ds, _, h => by
    cases h with
    | cons h1 h2 => rw [List.length_cons, List.length_cons, DpAll.len h2]
theorem DpAll.get {K : PySem.W.Frag} {H : Hp} : ∀ {ds : List PyData} {xs : List V} {i : Nat}, DpAll K H xs ds → (h : i < ds.length) → ∃ x, xs[i]? = some x ∧ Dp K H x ds[i]
  | [], _, i, _, h => by simp at h
  | d :: ds, _, 0, h, _ => by
    cases h with
    | cons h1 h2 => exact ⟨_, rfl, h1⟩
  | d :: ds, _, i + 1, h, hi => by
    cases h with
    | cons h1 h2 =>
      obtain ⟨x, e, q⟩ := DpAll.get (i := i) h2 (by simpa using hi)
      exact ⟨x, by simpa using e, by simpa using q⟩
def isLst : PyData → Bool | .list _ => true | _ => false
def isTup : PyData → Bool | .tuple _ => true | _ => false
def isSt : PyData → Bool | .str _ => true | _ => false
def isBo : PyData → Bool | .bool _ => true | _ => false
def isIn : PyData → Bool | .int _ => true | .bool _ => true | _ => false
def isNo : PyData → Bool | .none => true | _ => false
def its : PyData → List PyData | .list xs => xs | .tuple xs => xs | _ => []
def kindOf : PyData → String
  | .none => "NoneType" | .bool _ => "bool" | .int _ => "int" | .str _ => "str" | .list _ => "list" | .tuple _ => "tuple" | .dict _ => "dict"
theorem SqL.ty {K : PySem.W.Frag} {H : Hp} {a : Addr} {xs : List V} (h : SqL K H a xs) : TyX K H (.ref a) (.type "list") := by
  rcases h with (h | ⟨o, h⟩) | ⟨o, its, n, h, c, _⟩
  · exact .base (.lst h)
  · exact .base (.frz h)
  · exact .kList h c
theorem SqT.ty {K : PySem.W.Frag} {H : Hp} {a : Addr} {xs : List V} (h : SqT K H a xs) : TyX K H (.ref a) (.type "tuple") := by
  rcases h with (h | ⟨o, h⟩) | ⟨o, its, n, h, c, _⟩
  · exact .base (.tup h)
  · exact .fTuple h
  · exact .kTuple h c
theorem Dp.ty {K : PySem.W.Frag} {H : Hp} {x : V} {d : PyData} (h : Dp K H x d) : TyX K H x (.type (kindOf d)) := by
  cases h with
  | non => exact .base .non
  | bl b => exact .base (.bl b)
  | int i => exact .base (.int i)
  | str x => exact .base (.str x)
  | lst hs _ => exact SqL.ty hs
  | tup hs _ => exact SqT.ty hs
theorem Dp.nod {K : PySem.W.Frag} {H : Hp} {x : V} {d : PyData} (h : Dp K H x d) : ∀ kv, d ≠ .dict kv := by
  intro kv e
  subst e
  cases h
section
variable {K : PySem.W.Frag} {d : PyData} (nd : ∀ kv, d ≠ .dict kv)
include nd
theorem kit_lst : PySem.W.kitOne K (.type (kindOf d)) (.type "list") = some (isLst d) := by
  cases d with
  | none => exact kit_ty (a := "NoneType") (b := "list") (r := false) (by decide +kernel)
  | bool _ => exact kit_ty (a := "bool") (b := "list") (r := false) (by decide +kernel)
  | int _ => exact kit_ty (a := "int") (b := "list") (r := false) (by decide +kernel)
  | str _ => exact kit_ty (a := "str") (b := "list") (r := false) (by decide +kernel)
  | list _ => exact kit_ty (a := "list") (b := "list") (r := true) (by decide +kernel)
  | tuple _ => exact kit_ty (a := "tuple") (b := "list") (r := false) (by decide +kernel)
  | dict _ => exact absurd rfl (nd _)
theorem kit_str : PySem.W.kitOne K (.type (kindOf d)) (.type "str") = some (isSt d) := by
  cases d with
  | none => exact kit_ty (a := "NoneType") (b := "str") (r := false) (by decide +kernel)
  | bool _ => exact kit_ty (a := "bool") (b := "str") (r := false) (by decide +kernel)
  | int _ => exact kit_ty (a := "int") (b := "str") (r := false) (by decide +kernel)
  | str _ => exact kit_ty (a := "str") (b := "str") (r := true) (by decide +kernel)
  | list _ => exact kit_ty (a := "list") (b := "str") (r := false) (by decide +kernel)
  | tuple _ => exact kit_ty (a := "tuple") (b := "str") (r := false) (by decide +kernel)
  | dict _ => exact absurd rfl (nd _)
theorem kit_int : PySem.W.kitOne K (.type (kindOf d)) (.type "int") = some (isIn d) := by
  cases d with
  | none => exact kit_ty (a := "NoneType") (b := "int") (r := false) (by decide +kernel)
  | bool _ => exact kit_ty (a := "bool") (b := "int") (r := true) (by decide +kernel)
  | int _ => exact kit_ty (a := "int") (b := "int") (r := true) (by decide +kernel)
  | str _ => exact kit_ty (a := "str") (b := "int") (r := false) (by decide +kernel)
  | list _ => exact kit_ty (a := "list") (b := "int") (r := false) (by decide +kernel)
  | tuple _ => exact kit_ty (a := "tuple") (b := "int") (r := false) (by decide +kernel)
  | dict _ => exact absurd rfl (nd _)
theorem kit_bool : PySem.W.kitOne K (.type (kindOf d)) (.type "bool") = some (isBo d) := by
  cases d with
  | none => exact kit_ty (a := "NoneType") (b := "bool") (r := false) (by decide +kernel)
  | bool _ => exact kit_ty (a := "bool") (b := "bool") (r := true) (by decide +kernel)
  | int _ => exact kit_ty (a := "int") (b := "bool") (r := false) (by decide +kernel)
  | str _ => exact kit_ty (a := "str") (b := "bool") (r := false) (by decide +kernel)
  | list _ => exact kit_ty (a := "list") (b := "bool") (r := false) (by decide +kernel)
  | tuple _ => exact kit_ty (a := "tuple") (b := "bool") (r := false) (by decide +kernel)
  | dict _ => exact absurd rfl (nd _)
theorem kit_tup : PySem.W.kitOne K (.type (kindOf d)) (.type "tuple") = some (isTup d) := by
  cases d with
  | none => exact kit_ty (a := "NoneType") (b := "tuple") (r := false) (by decide +kernel)
  | bool _ => exact kit_ty (a := "bool") (b := "tuple") (r := false) (by decide +kernel)
  | int _ => exact kit_ty (a := "int") (b := "tuple") (r := false) (by decide +kernel)
  | str _ => exact kit_ty (a := "str") (b := "tuple") (r := false) (by decide +kernel)
  | list _ => exact kit_ty (a := "list") (b := "tuple") (r := false) (by decide +kernel)
  | tuple _ => exact kit_ty (a := "tuple") (b := "tuple") (r := true) (by decide +kernel)
  | dict _ => exact absurd rfl (nd _)
theorem kit_seq : PySem.W.kitAny K (.type (kindOf d)) [.type "tuple", .type "list"] = some (isTup d || isLst d) := by
  refine kitAny_cons (kit_tup nd) (fun h => ?_) (fun h => by rw [h]; rfl)
  refine kitAny_cons (kit_lst nd) (fun h2 => ?_) (fun h2 => by rw [h2, Bool.or_true])
  rw [h, h2]
  exact kitAny_nil
end
theorem Dp.seq {K : PySem.W.Frag} {H : Hp} {x : V} {d : PyData} (h : Dp K H x d) (s : (isTup d || isLst d) = true) : ∃ a xs, x = .ref a ∧ (SqL K H a xs ∨ SqT K H a xs) ∧ DpAll K H xs (its d) := by
  cases h with
  | lst hs ha => exact ⟨_, _, rfl, .inl hs, ha⟩
  | tup hs ha => exact ⟨_, _, rfl, .inr hs, ha⟩
  | _ => cases s
theorem its_eq {d e : PyData} (h1 : (isTup d || isLst d) = true) (h2 : (isTup e || isLst e) = true) (h : isLst d = isLst e) : d = e ↔ its d = its e := by
  constructor
  · intro q; rw [q]
  · intro q
    match d, e, h1, h2, h, q with
    | .list _, .list _, _, _, _, q => exact congrArg PyData.list q
    | .tuple _, .tuple _, _, _, _, q => exact congrArg PyData.tuple q
    | .list _, .tuple _, _, _, h, _ => cases h
    | .tuple _, .list _, _, _, h, _ => cases h
/-- at the places where two lists differ -/
theorem differ_at {α : Type} {l m : List α} {n : Nat} {ks : List Nat} (h1 : l.length = n) (h2 : m.length = n) (hk : ∀ k, k ∈ ks ↔ k < n ∧ l[k]? ≠ m[k]?) : ks = [] ↔ l = m := by
  constructor
  · intro e
    refine List.ext_getElem? fun k => ?_
    by_cases hlt : k < n
    · by_cases q : l[k]? = m[k]?
      · exact q
      · have := (hk k).mpr ⟨hlt, q⟩
        rw [e] at this
        cases this
    · rw [List.getElem?_eq_none (by omega), List.getElem?_eq_none (by omega)]
  · intro e
    cases ks with
    | nil => rfl
    | cons k ks => exact absurd (by rw [e]) ((hk k).mp List.mem_cons_self).2
abbrev s_law_alike : Stmt := top 27
abbrev n_law_alike : List Str := ["found", "due", "k"]
abbrev p_law_alike : List Str := ["found", "due"]
theorem sc_law_alike : FnScope n_law_alike p_law_alike (defScope s_law_alike) := ⟨rfl, rfl, rfl, by decide +kernel, rfl, by decide +kernel, by decide +kernel⟩
def spAlike (K : PySem.W.Frag) (n : Nat) : Sp := fun vs H Q _ => ∃ (x y : V) (d e : PyData), vs = [x, y] ∧ Dp K H x d ∧ Dp K H y e ∧ Pl 20 d ∧ Pl n e ∧ ∀ (b : Bool) (H' : Hp), (b = true ↔ d = e) → Same H H' → Q (.bl b) H'
theorem eqv_atom {d e : PyData} (hd : ∀ kv, d ≠ .dict kv) (he : (isTup e || isLst e) = false) (hb : isBo d = isBo e) : PyData.eqv d e = true ↔ d = e := by
  cases e <;> first | cases he | skip
  all_goals cases d <;> first | exact absurd rfl (hd _) | cases hb | skip
  all_goals simp [PyData.eqv]
section
variable {P : Program} {w : World} {K : PySem.W.Frag} {mg : Str → Option Value} {base : Heap}
/-- one round of it; what it calls within is of a lesser depth -/
theorem ok_alike_step {f : Addr} {fd : FuncData} {n k : Nat} (hn : n ≤ 20) (D : Dfn K mg "_law_alike" s_law_alike p_law_alike f fd) (B : Bi mg)
    (IH : ∃ sp0, FnOk P w K mg base CX0 k f fd p_law_alike sp0 ∧ ∀ vs H Q E, n ≠ 0 → spAlike K (n - 1) vs H Q E → sp0 vs H Q E) :
    FnOk P w K mg base CX0 (k + 1) f fd p_law_alike (spAlike K n) := by
  have nd := sc_law_alike.nd
  obtain ⟨sp0, G0, I0⟩ := IH
  refine D.F.ok sc_law_alike (fun vs H Q E h => ?_) (fun cdv A outer s H vs Q E hr h => ?_)
  · obtain ⟨x, y, d, e, rfl, _⟩ := h
    rfl
  · obtain ⟨x, y, d, e, rfl, hd, he, pd, pe, q⟩ := h
    refine ⟨_, pss_cons (ps_if (pt_val (pe_callB call_isiT (by rfl) B.isinstance (by decide +kernel) (pa_cons (pv 1) (pa_cons (pe_tup (pa_cons (pe_bltn (v := .ty "tuple") (by rfl) B.tuple (by decide +kernel) rfl) (pa_cons (pe_bltn (v := .ty "list") (by rfl) B.list (by decide +kernel) rfl) pa_nil))) pa_nil))))
        (pss_cons (ps_if (PW.pt (pw_or (pt_not (pt_val (pe_callB call_isiT (by rfl) B.isinstance (by decide +kernel) (pa_cons (pv 0) (pa_cons (pe_tup (pa_cons (pe_bltn (v := .ty "tuple") (by rfl) B.tuple (by decide +kernel) rfl) (pa_cons (pe_bltn (v := .ty "list") (by rfl) B.list (by decide +kernel) rfl) pa_nil))) pa_nil)))))
            (pw_or1 (pt_cmpR op_ne (pe_callB call_isi (by rfl) B.isinstance (by decide +kernel) (pa_cons (pv 0) (pa_cons (pe_bltn (v := .ty "list") (by rfl) B.list (by decide +kernel) rfl) pa_nil))) (pe_callB call_isi (by rfl) B.isinstance (by decide +kernel) (pa_cons (pv 1) (pa_cons (pe_bltn (v := .ty "list") (by rfl) B.list (by decide +kernel) rfl) pa_nil))) (nomark _)))))
            (pss_one (ps_ret pe_bl)) pss_nil)
        (pss_cons (ps_if (pt_cmpR op_ne (pe_callB call_len_seq (by rfl) B.len PySem.boot_len (pa_cons (pv 0) pa_nil)) (pe_callB call_len_seq (by rfl) B.len PySem.boot_len (pa_cons (pv 1) pa_nil)) (nomark _)) (pss_one (ps_ret pe_bl)) pss_nil)
        (pss_one (ps_ret (pe_cmpR (op_eqD hr.units)
          (pe_lc (own := [("k", 2)]) (g := gName 2) rfl nd (pi_range1 (by rfl) B.range (pa_cons (pe_callB call_len_seq (by rfl) B.len PySem.boot_len (pa_cons (pv 1) pa_nil)) pa_nil))
            (blkOk_by (N := n_law_alike) (sc := defScope s_law_alike) (by decide +kernel)) (fun _ _ _ _ _ => pg_name (i := 2) nd rfl (.inl rfl))
            (fun _ _ _ _ _ => pts_one (pt_not (pt_val (pe_call G0 hr (by rfl) D.g D.F.kp D.b .nil pass0 (pa_cons (pe_ix (r := rIx K) ix_seq (pv 0) (pv 2) (fun _ _ => rfl)) (pa_cons (pe_ix (r := rIx K) ix_seq (pv 1) (pv 2) (fun _ _ => rfl)) pa_nil))))))
            (fun _ _ _ _ _ => pv 2))
          (pe_lst pa_nil) (nomark _)))))) pss_nil)
      (pss_cons (ps_if (PW.pt (pw_or (pt_cmpR op_isN (pv 1) pe_non (nomark _)) (pw_or1 (pt_val (pe_callB call_isi (by rfl) B.isinstance (by decide +kernel) (pa_cons (pv 1) (pa_cons (pe_bltn (v := .ty "str") (by rfl) B.str (by decide +kernel) rfl) pa_nil)))))))
        (pss_one (ps_ret (pe_and (pe_cmpR (op_eqD hr.units) (pv 0) (pv 1) (nomark _)) (pe_one (pe_cmpR op_eq (pe_callB call_isi (by rfl) B.isinstance (by decide +kernel) (pa_cons (pv 0) (pa_cons (pe_bltn (v := .ty "str") (by rfl) B.str (by decide +kernel) rfl) pa_nil))) (pe_callB call_isi (by rfl) B.isinstance (by decide +kernel) (pa_cons (pv 1) (pa_cons (pe_bltn (v := .ty "str") (by rfl) B.str (by decide +kernel) rfl) pa_nil))) (nomark _)))))) pss_nil)
      (pss_one (ps_ret (pe_and (pe_callB call_isi (by rfl) B.isinstance (by decide +kernel) (pa_cons (pv 0) (pa_cons (pe_bltn (v := .ty "int") (by rfl) B.int (by decide +kernel) rfl) pa_nil)))
        (pe_and (pe_cmpR op_eq (pe_callB call_isi (by rfl) B.isinstance (by decide +kernel) (pa_cons (pv 0) (pa_cons (pe_bltn (v := .ty "bool") (by rfl) B.bool (by decide +kernel) rfl) pa_nil))) (pe_callB call_isi (by rfl) B.isinstance (by decide +kernel) (pa_cons (pv 1) (pa_cons (pe_bltn (v := .ty "bool") (by rfl) B.bool (by decide +kernel) rfl) pa_nil))) (nomark _))
        (pe_one (pe_cmpR (op_eqD hr.units) (pv 0) (pv 1) (nomark _)))))))), ?_⟩
    have nde := Dp.nod he
    have ndd := Dp.nod hd
    have clsp : Paired ClsV [V.ty "tuple", V.ty "list"] [Value.type "tuple", Value.type "list"] := .cons (.ty _) (.cons (.ty _) .nil)
    refine ⟨_, rfl, (by show 2 ≤ sizeLine; decide), fun tp htp => ?_⟩
    have s1 : Same H (upd H tp (.tup [V.ty "tuple", V.ty "list"])) := Same.new htp
    refine ⟨y, tp, _, _, _, _, rfl, upd_same, clsp, Dp.ty (Dp.same s1 e y he), kit_seq nde, _, rfl, ?_⟩
    generalize upd H tp (.tup [V.ty "tuple", V.ty "list"]) = H1 at s1
    by_cases se : (isTup e || isLst e) = true
    · rw [se]
      refine iteT ?_
      -- not isinstance(found, (tuple, list)) or ..
      refine ⟨_, rfl, (by show 2 ≤ sizeLine; decide), fun tq htq => ?_⟩
      have s2 : Same H (upd H1 tq (.tup [V.ty "tuple", V.ty "list"])) := s1.trans (Same.new htq)
      refine ⟨x, tq, _, _, _, _, rfl, upd_same, clsp, Dp.ty (Dp.same s2 d x hd), kit_seq ndd, _, rfl, ?_⟩
      generalize upd H1 tq (.tup [V.ty "tuple", V.ty "list"]) = H2 at s2
      by_cases sd : (isTup d || isLst d) = true
      · rw [sd]
        refine iteF ?_
        refine ⟨_, rfl, x, _, _, _, _, rfl, .ty _, Dp.ty (Dp.same s2 d x hd), kit_lst ndd, _, rfl, y, _, _, _, _, rfl, .ty _, Dp.ty (Dp.same s2 e y he), kit_lst nde, rfl, _, rfl, ?_⟩
        by_cases sl : isLst d = isLst e
        · have hh : (!decide (V.bl (isLst d) = V.bl (isLst e))) = false := by rw [sl, decide_eq_true rfl]; rfl
          rw [hh]
          refine iteF ?_
          -- len(found) != len(due)
          obtain ⟨a1, xs1, rfl, q1, dx1⟩ := Dp.seq (Dp.same s2 d x hd) sd
          obtain ⟨a2, xs2, rfl, q2, dx2⟩ := Dp.seq (Dp.same s2 e y he) se
          refine ⟨_, rfl, a1, xs1, rfl, q1, _, rfl, a2, xs2, rfl, q2, rfl, _, rfl, ?_⟩
          rw [DpAll.len dx1, DpAll.len dx2]
          by_cases ll : (its d).length = (its e).length
          · have hh2 : (!decide (V.int ((its d).length : Int) = V.int ((its e).length : Int))) = false := by rw [ll, decide_eq_true rfl]; rfl
            rw [hh2]
            refine iteF ?_
            have hlen : (its e).length ≤ 100000 := by
              match e, se, pe with
              | .list es, _, pe => cases n <;> first | exact pe.elim | exact pe.1
              | .tuple es, _, pe => cases n <;> first | exact pe.elim | exact pe.1
            have hn0 : n ≠ 0 := by
              intro z
              subst z
              match e, se, pe with
              | .list es, _, pe => exact pe
              | .tuple es, _, pe => exact pe
            have ite : ∀ z, z ∈ its e → Pl (n - 1) z := by
              match e, se, pe with
              | .list es, _, pe => cases n <;> first | exact pe.elim | exact pe.2
              | .tuple es, _, pe => cases n <;> first | exact pe.elim | exact pe.2
            have itd : ∀ z, z ∈ its d → Pl 20 z := by
              match d, sd, pd with
              | .list es, _, pd => exact fun z hz => Pl.succ _ _ (pd.2 z hz)
              | .tuple es, _, pd => exact fun z hz => Pl.succ _ _ (pd.2 z hz)
            refine ⟨_, rfl, a2, xs2, rfl, q2, _, rfl, by omega, by rw [DpAll.len dx2]; omega, fun Dl hD => ?_⟩
            have hDH : H2 Dl = none := hD
            refine lc_range (lo := 0) (n := xs2.length) (fun i H3 => ∃ ks : List Nat, H3 Dl = some (.lst (bV ks)) ∧ Same H2 H3 ∧ ks.length ≤ i ∧ ∀ k, k ∈ ks ↔ k < i ∧ (its d)[k]? ≠ (its e)[k]?) ?_ ?_ ?_
            · exact ⟨[], upd_same, Same.new hD, Nat.le_refl _, fun k => ⟨(fun z => nomatch z), fun z => absurd z.1 (Nat.not_lt_zero _)⟩⟩
            · rintro i H3 hi ⟨ks, hks, s3, hl, hk⟩
              rw [DpAll.len dx2] at hi
              obtain ⟨x1, g1, p1⟩ := DpAll.get (i := i) dx1 (by omega)
              obtain ⟨x2, g2, p2⟩ := DpAll.get (i := i) dx2 hi
              have w1 : (SqL K H3 a1 xs1 ∨ SqT K H3 a1 xs1) := q1.elim (fun z => .inl (s3.seq z)) fun z => .inr (Same.seqT s3 z)
              have w2 : (SqL K H3 a2 xs2 ∨ SqT K H3 a2 xs2) := q2.elim (fun z => .inl (s3.seq z)) fun z => .inr (Same.seqT s3 z)
              have at1 : atI xs1 (0 + (i : Int)) = some x1 := at_of (j := i) (by omega) g1
              have at2 : atI xs2 (0 + (i : Int)) = some x2 := at_of (j := i) (by omega) g2
              refine ⟨rfl, ?_⟩
              refine ⟨_, rfl, _, rfl, ?_⟩
              have step : ∀ {Q : V → Hp → Prop} {a : Addr} {xs : List V} {v : V}, (SqL K H3 a xs ∨ SqT K H3 a xs) → atI xs (0 + (i : Int)) = some v → Q v H3 → rIx K (.ref a) (.int (0 + (i : Int))) H3 Q := fun w g z => by
                rcases w with w | w
                · exact .inl ⟨_, _, _, _, rfl, rfl, w, g, z⟩
                · exact .inr (.inl ⟨_, _, _, _, rfl, rfl, w, g, z⟩)
              refine step w1 at1 ?_
              refine ⟨_, rfl, _, rfl, ?_⟩
              refine step w2 at2 ?_
              refine I0 _ _ _ _ hn0 ⟨x1, x2, _, _, rfl, Dp.same s3 _ _ p1, Dp.same s3 _ _ p2, itd _ (List.getElem_mem _), ite _ (List.getElem_mem _), fun b H4 hb s4 => ?_⟩
              have gd : (its d)[i]? = some ((its d)[i]'(by omega)) := List.getElem?_eq_getElem (by omega)
              have ge : (its e)[i]? = some (its e)[i] := List.getElem?_eq_getElem hi
              refine ⟨b, rfl, ?_⟩
              cases b with
              | true =>
                refine iteF ?_
                have eq := hb.mp rfl
                refine ⟨ks, s4 _ _ hks, s3.trans s4, Nat.le_succ_of_le hl, fun k => ?_⟩
                rw [hk k]
                constructor
                · rintro ⟨z1, z2⟩
                  exact ⟨Nat.lt_succ_of_lt z1, z2⟩
                · rintro ⟨z1, z2⟩
                  refine ⟨?_, z2⟩
                  rcases Nat.lt_succ_iff_lt_or_eq.mp z1 with z | z
                  · exact z
                  · subst z
                    exact absurd (by rw [gd, ge, eq]) z2
              | false =>
                refine iteT ?_
                have neq : (its d)[i]'(by omega) ≠ (its e)[i] := fun z => by cases (hb.mpr z)
                refine ⟨_, rfl, bV ks, s4 _ _ hks, ?_, ks ++ [i], ?_, ?_, ?_, fun k => ?_⟩
                · rw [bV_len]
                  exact Nat.lt_of_le_of_lt hl (Nat.lt_of_lt_of_le hi (Nat.le_trans hlen (by decide)))
                · rw [upd_same, bV_app, show (0 : Int) + (i : Int) = (i : Int) by omega]
                · exact fun c o z => by
                    rw [upd_ne (ne_of_none z hDH)]
                    exact (s3.trans s4) c o z
                · rw [List.length_append]
                  exact Nat.succ_le_succ hl
                · rw [List.mem_append, hk k]
                  constructor
                  · rintro (⟨z1, z2⟩ | z)
                    · exact ⟨Nat.lt_succ_of_lt z1, z2⟩
                    · have : k = i := by simpa using z
                      subst this
                      exact ⟨Nat.lt_succ_self _, fun z => neq (Option.some.inj (gd.symm.trans (z.trans ge)))⟩
                  · rintro ⟨z1, z2⟩
                    rcases Nat.lt_succ_iff_lt_or_eq.mp z1 with z | z
                    · exact .inl ⟨z, z2⟩
                    · exact .inr (by simp [z])
            · rintro H3 ⟨ks, hks, s3, hl, hk⟩
              rw [DpAll.len dx2] at hk
              refine ⟨Nat.zero_le _, fun p hp => ?_⟩
              have s5 : Same H3 (upd H3 p (.lst [])) := Same.new hp
              have dpi : ∀ (zs : List Nat) (Hx : Hp), DpAll K Hx (bV zs) (zs.map fun (z : Nat) => PyData.int (z : Int)) := by
                intro zs Hx
                induction zs with
                | nil => exact .nil
                | cons z zs ih => exact .cons (.int _) ih
              have pli : Pl 1 (.list (ks.map fun (z : Nat) => PyData.int (z : Int))) := ⟨by rw [List.length_map]; exact Nat.le_trans hl (by rw [DpAll.len dx2]; exact hlen), fun z hz => by
                obtain ⟨m, _, rfl⟩ := List.mem_map.mp hz
                exact True.intro⟩
              refine ⟨.list (ks.map fun (z : Nat) => PyData.int (z : Int)), .list [], .lst (SqL.of (s5 _ _ hks)) (dpi _ _), .lst (SqL.of upd_same) .nil, pli.shaped (by decide), rfl, ?_⟩
              refine q _ _ ?_ ((s2.trans s3).trans s5)
              rw [its_eq sd se sl, ← differ_at (n := (its e).length) ll rfl hk]
              cases ks with
              | nil => exact ⟨fun _ => rfl, fun _ => by simp [PyData.eqv, PyData.eqvAll]⟩
              | cons k ks => exact ⟨fun z => by simp [PyData.eqv, PyData.eqvAll] at z, fun z => by cases z⟩
          · have hh2 : (!decide (V.int ((its d).length : Int) = V.int ((its e).length : Int))) = true := by
              rw [decide_eq_false (fun z => ll (by injection z with z; omega))]; rfl
            rw [hh2]
            refine iteT ?_
            exact q false H2 ⟨(fun z => nomatch z), fun z => absurd (by rw [z]) ll⟩ s2
        · have hh : (!decide (V.bl (isLst d) = V.bl (isLst e))) = true := by
            rw [decide_eq_false (fun z => sl (by injection z))]; rfl
          rw [hh]
          refine iteT ?_
          exact q false H2 ⟨(fun z => nomatch z), fun z => absurd (by rw [z]) sl⟩ s2
      · rw [Bool.not_eq_true] at sd
        rw [sd]
        refine iteT ?_
        refine iteT ?_
        exact q false H2 ⟨(fun z => nomatch z), fun z => by rw [z, se] at sd; cases sd⟩ s2
    · rw [Bool.not_eq_true] at se
      rw [se]
      refine iteF ?_
      have s2 := s1
      have shd := pd.shaped (by decide)
      have she := pe.shaped (by omega)
      have hy : decide (y = V.non) = isNo e := by cases he <;> simp [isNo]
      have hstr : (isNo e || isSt e) = true → Q (V.bl (decide (V.bl (isSt d) = V.bl (isSt e)) && PyData.eqv d e)) H1 := fun z => by
        refine q _ _ ?_ s2
        match e, z with
        | .none, _ => cases d <;> simp [PyData.eqv, isSt]
        | .str _, _ => cases d <;> simp [PyData.eqv, isSt]
      have fin1 : (isNo e || isSt e) = true → (∃ c, V.bl (PyData.eqv d e) = V.bl c ∧ if c = true then tCB (rIsi K) (tCons (tVar 0) (tCons (tC (.ty "str")) tNil)) [some x, some y, none] H1 (fun u H2 => tCB (rIsi K) (tCons (tVar 1) (tCons (tC (.ty "str")) tNil)) [some x, some y, none] H2 fun v H3 => rEq u v H3 Q) else Q (.bl false) H1) := fun z => by
        have h1 := hstr z
        refine ⟨_, rfl, ?_⟩
        cases hv : PyData.eqv d e with
        | true =>
          refine iteT ?_
          rw [hv, Bool.and_true] at h1
          exact ⟨_, rfl, x, _, _, _, _, rfl, .ty _, Dp.ty (Dp.same s2 d x hd), kit_str ndd, _, rfl, y, _, _, _, _, rfl, .ty _, Dp.ty (Dp.same s2 e y he), kit_str nde, rfl, h1⟩
        | false =>
          refine iteF ?_
          rw [hv, Bool.and_false] at h1
          exact h1
      -- if due is None or isinstance(due, str)
      refine ⟨_, rfl, rfl, _, rfl, ?_⟩
      rw [hy]
      by_cases no : isNo e = true
      · rw [no]
        refine iteT ?_
        refine iteT ?_
        exact ⟨_, rfl, _, rfl, d, e, Dp.same s2 d x hd, Dp.same s2 e y he, shd, she, fin1 (by rw [no]; rfl)⟩
      · rw [Bool.not_eq_true] at no
        rw [no]
        refine iteF ?_
        refine ⟨_, rfl, y, _, _, _, _, rfl, .ty _, Dp.ty (Dp.same s2 e y he), kit_str nde, _, rfl, ?_⟩
        by_cases st : isSt e = true
        · rw [st]
          refine iteT ?_
          exact ⟨_, rfl, _, rfl, d, e, Dp.same s2 d x hd, Dp.same s2 e y he, shd, she, fin1 (by rw [st, Bool.or_true])⟩
        · rw [Bool.not_eq_true] at st
          rw [st]
          refine iteF ?_
          -- isinstance(found, int) and ..
          have ine : isIn e = true := by
            match e, se, no, st, nde with
            | .bool _, _, _, _, _ => rfl
            | .int _, _, _, _, _ => rfl
            | .dict kv, _, _, _, nde => exact absurd rfl (nde kv)
          refine ⟨_, rfl, x, _, _, _, _, rfl, .ty _, Dp.ty (Dp.same s2 d x hd), kit_int ndd, _, rfl, ?_⟩
          by_cases ind : isIn d = true
          · rw [ind]
            refine iteT ?_
            refine ⟨_, rfl, x, _, _, _, _, rfl, .ty _, Dp.ty (Dp.same s2 d x hd), kit_bool ndd, _, rfl, y, _, _, _, _, rfl, .ty _, Dp.ty (Dp.same s2 e y he), kit_bool nde, rfl, _, rfl, ?_⟩
            by_cases bb : isBo d = isBo e
            · rw [decide_eq_true (show V.bl (isBo d) = V.bl (isBo e) by rw [bb])]
              refine iteT ?_
              refine ⟨_, rfl, _, rfl, d, e, Dp.same s2 d x hd, Dp.same s2 e y he, shd, she, ?_⟩
              exact q _ _ (eqv_atom ndd se bb) s2
            · rw [decide_eq_false (show ¬ V.bl (isBo d) = V.bl (isBo e) from fun z => bb (by injection z))]
              refine iteF ?_
              exact q false H1 ⟨(fun z => nomatch z), fun z => absurd (by rw [z]) bb⟩ s2
          · rw [Bool.not_eq_true] at ind
            rw [ind]
            refine iteF ?_
            exact q false H1 ⟨(fun z => nomatch z), fun z => by rw [z, ine] at ind; cases ind⟩ s2
/-- alike at every depth to 20 -/
theorem ok_alike {f : Addr} {fd : FuncData} (D : Dfn K mg "_law_alike" s_law_alike p_law_alike f fd) (B : Bi mg) : ∀ n, n ≤ 20 → FnOk P w K mg base CX0 (n + 2) f fd p_law_alike (spAlike K n)
  | 0, hn => ok_alike_step hn D B ⟨fun _ _ _ _ => False, by
      obtain ⟨oc, od, kV, doc, pm, an, cdv, ct, osl, rfl, lk, hcd⟩ := D.F.ex
      exact D.F.ok (k := 0) sc_law_alike (fun vs H Q E h => h.elim) (fun cdv A outer s H vs Q E hr h => h.elim), fun vs H Q E h => absurd rfl h⟩
  | n + 1, hn => ok_alike_step hn D B ⟨spAlike K n, ok_alike D B n (by omega), fun vs H Q E _ h => h⟩
end
section
/-- bytes as data -/
def dI (l : List Nat) : List PyData := l.map fun (n : Nat) => PyData.int (n : Int)
theorem dI_all (K : PySem.W.Frag) (H : Hp) : ∀ l : List Nat, DpAll K H (bV l) (dI l)
  | [] => .nil
  | n :: l => .cons (.int _) (dI_all K H l)
theorem dI_pl {l : List Nat} (h : l.length ≤ 100000) : Pl 1 (.tuple (dI l)) := ⟨by unfold dI; rw [List.length_map]; exact h, fun z hz => by
  obtain ⟨m, _, rfl⟩ := List.mem_map.mp hz
  exact True.intro⟩
theorem dI_plL {l : List Nat} (h : l.length ≤ 100000) : Pl 1 (.list (dI l)) := ⟨by unfold dI; rw [List.length_map]; exact h, fun z hz => by
  obtain ⟨m, _, rfl⟩ := List.mem_map.mp hz
  exact True.intro⟩
theorem dI_inj : ∀ {l m : List Nat}, dI l = dI m → l = m
  | [], [], _ => rfl
  | [], _ :: _, h => by cases h
  | _ :: _, [], h => by cases h
  | a :: l, b :: m, h => by
    have h' : PyData.int (a : Int) :: dI l = PyData.int (b : Int) :: dI m := h
    injection h' with h1 h2
    injection h1 with h1
    rw [dI_inj h2, show a = b by omega]
theorem dI_eqvAll : ∀ l m : List Nat, PyData.eqvAll (dI l) (dI m) = decide (l = m)
  | [], [] => by simp [dI, PyData.eqvAll]
  | [], _ :: _ => by simp [dI, PyData.eqvAll]
  | _ :: _, [] => by simp [dI, PyData.eqvAll]
  | a :: l, b :: m => by
    have ih := dI_eqvAll l m
    show PyData.eqvAll (PyData.int (a : Int) :: dI l) (PyData.int (b : Int) :: dI m) = _
    simp only [PyData.eqvAll, PyData.eqv]
    rw [ih]
    by_cases h1 : a = b
    · subst h1
      simp
    · have : ¬ ((a : Int) = (b : Int)) := by omega
      simp [h1, this]
end
/-! ### the program: counts -/
abbrev sis_between : Stmt := top 5
abbrev nis_between : List Str := ["value", "least", "most"]
abbrev pis_between : List Str := ["value", "least", "most"]
theorem scis_between : FnScope nis_between pis_between (defScope sis_between) := ⟨rfl, rfl, rfl, by decide +kernel, rfl, by decide +kernel, by decide +kernel⟩
def spBtw : Sp := fun vs H Q _ => ∃ (v a b : Int), vs = [.int v, .int a, .int b] ∧ Q (.bl (decide (a ≤ v ∧ v ≤ b))) H
section
variable {P : Program} {w : World} {K : PySem.W.Frag} {mg : Str → Option Value} {base : Heap}
theorem ok_btw {f : Addr} {fd : FuncData} (D : Dfn K mg "is_between" sis_between pis_between f fd) (B : Bi mg) : FnOk P w K mg base CX0 1 f fd pis_between spBtw := by
  have nd := scis_between.nd
  refine D.F.ok scis_between (fun vs H Q E h => ?_) (fun cdv A outer s H vs Q E hr h => ?_)
  · obtain ⟨v, a, b, rfl, _⟩ := h
    rfl
  · obtain ⟨v, a, b, rfl, q⟩ := h
    refine ⟨_, pss_one (ps_ret (pe_and (pe_cmpR op_isTyB (pe_callTy call_type1 (by rfl) B.type (by decide +kernel) (pa_cons (pv 0) pa_nil)) (pe_bltn (v := .ty "int") (by rfl) B.int (by decide +kernel) rfl) (nomark _))
      (pe_one (pe_chain op_le op_le (pv 1) (pv 0) (pv 2))))), ?_⟩
    refine ⟨_, rfl, _, "int", rfl, .int _, _, _, rfl, rfl, _, rfl, ?_⟩
    refine iteT ?_
    refine ⟨_, rfl, _, rfl, _, _, rfl, rfl, _, rfl, ?_⟩
    by_cases h1 : a ≤ v
    · rw [decide_eq_true h1]
      refine iteT ?_
      refine ⟨_, rfl, _, _, rfl, rfl, ?_⟩
      have e : decide (v ≤ b) = decide (a ≤ v ∧ v ≤ b) := by
        rw [decide_eq_decide]
        exact ⟨fun h => ⟨h1, h⟩, fun h => h.2⟩
      show Q (V.bl (decide (v ≤ b))) H
      rw [e]
      exact q
    · rw [decide_eq_false h1]
      refine iteF ?_
      have e : decide (a ≤ v ∧ v ≤ b) = false := decide_eq_false fun h => h1 h.1
      rw [e] at q
      exact q
end
end K06
namespace K06
open PySem L2 Pg RZ
/-! ### the program: numbers of the prime -/
abbrev PR : Int := 2305843009213693951
structure TP (mg : Str → Option Value) : Prop where
  pr : ∃ t, mg "PRIME" = some (.int 2305843009213693951 t)
  mr : ∃ t, mg "MOST_ROOTS" = some (.int 60 t)
  en : mg "enumerate" = none
  rev : mg "reversed" = none
  so : mg "sorted" = none
theorem gcd_one {n : Nat} (h0 : 0 < n) (h : n < 2305843009213693951) : Nat.gcd 2305843009213693951 n = 1 := by
  have e : n * n ^ (Pr.P - 2) % 2305843009213693951 = 1 := Pr.mul_inv (x := n) (by show n % 2305843009213693951 ≠ 0; omega)
  generalize n ^ (Pr.P - 2) = m at e
  have hd1 : Nat.gcd 2305843009213693951 n ∣ 2305843009213693951 := Nat.gcd_dvd_left _ _
  have hd2 : Nat.gcd 2305843009213693951 n ∣ n * m := Nat.dvd_trans (Nat.gcd_dvd_right _ _) (Nat.dvd_mul_right _ _)
  have h3 := (Nat.dvd_mod_iff hd1).mpr hd2
  rw [e] at h3
  exact Nat.dvd_one.mp h3
structure Eu (n hi lo : Nat) (oh ol : Int) : Prop where
  a : c oh * c (n : Nat) = c (hi : Nat)
  b : c ol * c (n : Nat) = c (lo : Nat)
  g : Nat.gcd hi lo = 1
  s : ∃ u v : Nat, u * hi + v * lo = 2305843009213693951 ∧ ((ol = u ∧ oh = -(v : Int)) ∨ (ol = -(u : Int) ∧ oh = v))
  h0 : 0 < hi
  hP : hi ≤ 2305843009213693951
  hl : lo ≤ hi
theorem Eu.start {n : Nat} (h0 : 0 < n) (h : n < 2305843009213693951) : Eu n 2305843009213693951 n 0 1 where
  a := by
    rw [c_zero, show c ((2305843009213693951 : Nat) : Int) = 0 from rfl]
    exact Lean.Grind.Semiring.zero_mul _
  b := by
    rw [c_one]
    exact Lean.Grind.Semiring.one_mul _
  g := gcd_one h0 h
  s := ⟨1, 0, by omega, .inl ⟨rfl, rfl⟩⟩
  h0 := by decide
  hP := Nat.le_refl _
  hl := Nat.le_of_lt h
theorem lin {R : Type} [Po.Fd R] (a b m n h l : R) (e1 : a * n = h) (e2 : b * n = l) : (a - m * b) * n = h - m * l := by grind
theorem Eu.next {n hi lo : Nat} {oh ol : Int} (E : Eu n hi lo oh ol) (h : 0 < lo) : Eu n lo (hi % lo) ol (oh - ((hi / lo : Nat) : Int) * ol) where
  a := E.b
  b := by
    rw [c_sub, c_mul, lin _ _ _ _ _ _ E.a E.b, ← c_mul, ← c_sub]
    congr 1
    have := Nat.div_add_mod hi lo
    rw [Int.mul_comm]
    omega
  g := by
    rw [Nat.gcd_comm, ← Nat.gcd_rec, Nat.gcd_comm]
    exact E.g
  s := by
    obtain ⟨u, v, e, hs⟩ := E.s
    refine ⟨v + hi / lo * u, u, ?_, ?_⟩
    · rw [← e, Nat.add_mul, Nat.add_comm (u * hi), Nat.add_assoc]
      congr 1
      have := Nat.div_add_mod hi lo
      conv => rhs; rw [← this, Nat.mul_add]
      congr 1
      rw [Nat.mul_right_comm, Nat.mul_comm u, Nat.mul_comm lo]
    · rcases hs with ⟨rfl, rfl⟩ | ⟨rfl, rfl⟩
      · refine .inr ⟨?_, rfl⟩
        rw [Int.natCast_add, Int.natCast_mul, Int.neg_add]
        omega
      · refine .inl ⟨?_, rfl⟩
        rw [Int.natCast_add, Int.natCast_mul, Int.mul_neg]
        omega
  h0 := h
  hP := Nat.le_trans E.hl E.hP
  hl := Nat.le_of_lt (Nat.mod_lt _ h)
theorem Eu.bd {n hi lo : Nat} {oh ol : Int} (E : Eu n hi lo oh ol) : ol.natAbs < 2 ^ 62 := by
  obtain ⟨u, v, e, hs⟩ := E.s
  have h1 : u * 1 ≤ u * hi := Nat.mul_le_mul_left u E.h0
  omega
abbrev sinverse : Stmt := top 12
abbrev ninverse : List Str := ["number", "high", "low", "of_high", "of_low", "many"]
abbrev pinverse : List Str := ["number"]
theorem scinverse : FnScope ninverse pinverse (defScope sinverse) := ⟨rfl, rfl, rfl, by decide +kernel, rfl, by decide +kernel, by decide +kernel⟩
def spInv : Sp := fun vs H Q _ => ∃ (n : Nat), vs = [.int n] ∧ 0 < n ∧ n < 2305843009213693951 ∧ ∀ (r : Nat) (H' : Hp), r < 2305843009213693951 → c (r : Nat) * c (n : Nat) = 1 → Same H H' → Q (.int r) H'
section
variable {P : Program} {w : World} {K : PySem.W.Frag} {mg : Str → Option Value} {base : Heap}
theorem ok_inv {f : Addr} {fd : FuncData} (D : Dfn K mg "inverse" sinverse pinverse f fd) (T : TP mg) : FnOk P w K mg base CX0 1 f fd pinverse spInv := by
  have nd := scinverse.nd
  obtain ⟨tp, hp⟩ := T.pr
  refine D.F.ok scinverse (fun vs H Q E h => ?_) (fun cdv A outer s H vs Q E hr h => ?_)
  · obtain ⟨n, rfl, _⟩ := h
    rfl
  · obtain ⟨n, rfl, h0, h1, q⟩ := h
    refine ⟨_, pss_cons (ps_par (i := 1) (j := 2) (by rfl) nd rfl rfl (by decide) rfl rfl (pa_cons (pe_glob (v := .int 2305843009213693951) rfl hp ⟨_, rfl⟩) (pa_cons (pv 0) pa_nil)) (by rfl))
      (pss_cons (ps_asg (g := gTup K 2 (gCons (gName 3) (gCons (gName 4) gNil))) (pe_tup (pa_cons pe_int (pa_cons pe_int pa_nil))) (by exact pg_tup rfl (pgs_cons (pg_name (i := 3) nd rfl (.inl rfl)) (pgs_cons (pg_name (i := 4) nd rfl (.inl rfl)) pgs_nil))))
      (pss_cons (ps_while PassesOwn.never (pt_cmpR op_gt (pv 2) pe_int (nomark _))
        (pss_cons (ps_set (i := 5) nd rfl (.inl rfl) (pe_op op_fdivW (pv 1) (pv 2)))
        (pss_cons (ps_par (i := 1) (j := 2) (by rfl) nd rfl rfl (by decide) rfl rfl (pa_cons (pv 2) (pa_cons (pe_op op_sub (pv 1) (pe_op op_mulW (pv 5) (pv 2))) pa_nil)) (by rfl))
        (pss_one (ps_par (i := 3) (j := 4) (by rfl) nd rfl rfl (by decide) rfl rfl (pa_cons (pv 4) (pa_cons (pe_op op_sub (pv 3) (pe_op op_mulW (pv 5) (pv 4))) pa_nil)) (by rfl))))))
      (pss_one (ps_ret (pe_op op_mod (pv 3) (pe_glob (v := .int 2305843009213693951) rfl hp ⟨_, rfl⟩)))))), ?_⟩
    refine ⟨_, rfl, _, _, rfl, ?_⟩
    refine ⟨by decide, fun tp0 ntp => ⟨tp0, _, rfl, SqT.of upd_same, rfl, _, _, rfl, _, _, rfl, rfl, ?_⟩⟩
    have st : Same H (upd H tp0 (.tup [.int 0, .int 1])) := Same.new ntp
    generalize upd H tp0 (.tup [.int 0, .int 1]) = H0 at st
    refine ⟨fun m σ H1 => ∃ (hi lo : Nat) (oh ol : Int) (v5 : Option V), m = lo ∧ σ = [some (.int n), some (.int hi), some (.int lo), some (.int oh), some (.int ol), v5] ∧ H1 = H0 ∧ Eu n hi lo oh ol, ⟨n, 2305843009213693951, n, 0, 1, none, rfl, rfl, rfl, Eu.start h0 h1⟩, ?_⟩
    rintro m σ H1 ⟨hi, lo, oh, ol, v5, rfl, rfl, rfl, U⟩
    refine ⟨_, rfl, _, _, rfl, rfl, _, rfl, ?_⟩
    have hP := U.hP
    have hl := U.hl
    by_cases hz : 0 < m
    · rw [decide_eq_true (show (0 : Int) < (m : Int) by omega)]
      refine iteT ?_
      have U2 := U.next hz
      have ed : (hi : Int) / (m : Int) = ((hi / m : Nat) : Int) := (Int.natCast_ediv hi m).symm
      have hq : hi / m ≤ hi := Nat.div_le_self _ _
      have hq2 : ((hi / m : Nat) : Int).natAbs < 2 ^ 62 := by
        rw [Int.natAbs_natCast]
        exact Nat.lt_of_le_of_lt hq (Nat.lt_of_le_of_lt hP (by decide))
      have em : (hi : Int) - ((hi / m : Nat) : Int) * (m : Int) = ((hi % m : Nat) : Int) := by
        have := Nat.div_add_mod hi m
        rw [← Int.natCast_mul, Nat.mul_comm]
        omega
      refine ⟨fun σ' H' => ∃ (hi lo : Nat) (oh ol : Int) (v5 : Option V), lo < m ∧ σ' = [some (.int n), some (.int hi), some (.int lo), some (.int oh), some (.int ol), v5] ∧ H' = H1 ∧ Eu n hi lo oh ol, fun σ' H' ⟨hi, lo, oh, ol, v5, l, a, b, d⟩ => ⟨lo, l, hi, lo, oh, ol, v5, rfl, a, b, d⟩, ?_⟩
      refine ⟨_, rfl, _, rfl, _, _, rfl, rfl, wide_div (b := 62) (by omega) (by omega) (by decide) (by decide), ?_⟩
      refine ⟨_, rfl, _, rfl, _, rfl, _, rfl, _, _, rfl, rfl, wide_mul (a := 62) (b := 62) (by rw [ed]; exact hq2) (by omega) (by decide) (by decide) (by decide), _, _, rfl, rfl, _, _, rfl, ?_⟩
      refine ⟨_, rfl, _, rfl, _, rfl, _, rfl, _, _, rfl, rfl, wide_mul (a := 62) (b := 62) (by rw [ed]; exact hq2) U.bd (by decide) (by decide) (by decide), _, _, rfl, rfl, _, _, rfl, ?_⟩
      refine ⟨m, hi % m, ol, oh - ((hi / m : Nat) : Int) * ol, some (.int ((hi / m : Nat) : Int)), Nat.mod_lt _ hz, ?_, rfl, U2⟩
      show [_, _, some (V.int ((hi : Int) - (hi : Int) / (m : Int) * (m : Int))), _, some (V.int (oh - (hi : Int) / (m : Int) * ol)), some (V.int ((hi : Int) / (m : Int)))] = _
      rw [ed, em]
    · rw [decide_eq_false (show ¬ (0 : Int) < (m : Int) by omega)]
      refine iteF ?_
      obtain rfl : m = 0 := by omega
      have h1' : hi = 1 := by
        have := U.g
        rw [Nat.gcd_zero_right] at this
        exact this
      subst h1'
      refine ⟨_, rfl, _, _, rfl, rfl, (by show (0 : Int) < 2305843009213693951; decide), ?_⟩
      show Q (V.int (oh % 2305843009213693951)) H1
      rw [← md_int]
      refine q (md oh) _ (md_lt _) ?_ st
      rw [c_md]
      exact U.a
end
end K06
namespace K06
open PySem L2 Pg RZ
/-! ### the program: trimmed, value_of, poly_scaled -/
theorem pcut_to (l : List Nat) (k : Nat) : cutV (bV l) none (some (k : Int)) = bV (l.take k) := by
  unfold cutV
  rw [HT.sIx_none, HT.sIx_nat, List.drop_zero, Nat.sub_zero, bV_len]
  unfold bV
  rw [← List.map_take]
  congr 1
  rw [← List.take_eq_take_min]
theorem for_revT {K : PySem.W.Frag} {a : Addr} {xs : List V} {g : TG} {tb : TS} {D : Ends} {σ : L2.St} {H : Hp} (Pv : Nat → L2.St → Hp → Prop) (h0 : Pv 0 σ H) (hq : ∀ i σ H, Pv i σ H → SqT K H a xs)
    (hs : ∀ (i : Nat) (x : V) (σ : L2.St) (H : Hp), i < xs.length → xs[xs.length - 1 - i]? = some x → Pv i σ H → g x σ H fun σ2 H2 => tb { D with nx := Pv (i + 1), ct := Pv (i + 1), bk := D.nx } σ2 H2) (hd : ∀ σ H, Pv xs.length σ H → D.nx σ H) :
    ∃ W : Nat → Nat → L2.St → Hp → Prop, (∃ m, W 0 m σ H) ∧ ∀ i m σ H, W i m σ H →
      ((RT.ItvT K a xs.length).stop i H ∧ D.nx σ H) ∨ ((RT.ItvT K a xs.length).go i H ∧ ∃ N : L2.St → Hp → Prop, (∀ σ' H', N σ' H' → ∃ m', m' < m ∧ W (i + 1) m' σ' H') ∧ ∀ v H', (RT.ItvT K a xs.length).yld i H v H' → g v σ H' fun σ2 H2 => tb { D with nx := N, ct := N, bk := D.nx } σ2 H2) := by
  refine ⟨fun i m σ H => m = xs.length - i ∧ i ≤ xs.length ∧ Pv i σ H, ⟨xs.length, rfl, Nat.zero_le _, h0⟩, ?_⟩
  rintro i m σ H ⟨rfl, hi, p⟩
  have hp := hq i σ H p
  by_cases hlt : i < xs.length
  · have hl2 : xs.length - 1 - i < xs.length := by omega
    refine .inr ⟨⟨hlt, xs, xs[xs.length - 1 - i], hp, List.getElem?_eq_getElem hl2⟩, Pv (i + 1), fun σ' H' p' => ⟨xs.length - (i + 1), by omega, rfl, hlt, p'⟩, fun v H' y => ?_⟩
    obtain ⟨rfl, hx⟩ := y
    exact hs i v σ _ hlt (hx xs hp) p
  · obtain rfl : i = xs.length := by omega
    exact .inl ⟨Nat.le_refl _, hd σ H p⟩
abbrev strimmed : Stmt := top 13
abbrev ntrimmed : List Str := ["numbers", "many"]
abbrev ptrimmed : List Str := ["numbers"]
theorem sctrimmed : FnScope ntrimmed ptrimmed (defScope strimmed) := ⟨rfl, rfl, rfl, by decide +kernel, rfl, by decide +kernel, by decide +kernel⟩
/-- cut behind its last number that is not 0 -/
def Trm (l t : List Nat) : Prop := ∃ m, m ≤ l.length ∧ t = l.take m ∧ (m = 0 ∨ l.getD (m - 1) 0 ≠ 0) ∧ ∀ j, m ≤ j → l.getD j 0 = 0
def spTrm (K : PySem.W.Frag) : Sp := fun vs H Q _ => ∃ (a : Addr) (l : List Nat), vs = [.ref a] ∧ SqL K H a (bV l) ∧ l.length ≤ 10000 ∧ ∀ (t : List Nat) (p : Addr) (H' : Hp), Trm l t → Same H H' → H p = none → H' p = some (.tup (bV t)) → Q (.ref p) H'
abbrev svalue_of : Stmt := top 14
abbrev nvalue_of : List Str := ["poly", "place", "total", "number"]
abbrev pvalue_of : List Str := ["poly", "place"]
theorem scvalue_of : FnScope nvalue_of pvalue_of (defScope svalue_of) := ⟨rfl, rfl, rfl, by decide +kernel, rfl, by decide +kernel, by decide +kernel⟩
def spVal (K : PySem.W.Frag) : Sp := fun vs H Q _ => ∃ (a : Addr) (l : List Nat) (x : Nat), vs = [.ref a, .int x] ∧ SqT K H a (bV l) ∧ x < 2305843009213693951 ∧ Q (.int (hor x l : Nat)) H
theorem hor_lt (x : Nat) : ∀ l, hor x l < 2305843009213693951
  | [] => by show 0 < 2305843009213693951; omega
  | _ :: _ => md_lt _
abbrev spoly_scaled : Stmt := top 15
abbrev npoly_scaled : List Str := ["poly", "factor", "number"]
abbrev ppoly_scaled : List Str := ["poly", "factor"]
theorem scpoly_scaled : FnScope npoly_scaled ppoly_scaled (defScope spoly_scaled) := ⟨rfl, rfl, rfl, by decide +kernel, rfl, by decide +kernel, by decide +kernel⟩
def scl (f : Nat) (l : List Nat) : List Nat := l.map fun n => md ((n : Nat) * (f : Nat))
def spScl (K : PySem.W.Frag) : Sp := fun vs H Q _ => ∃ (a : Addr) (l : List Nat) (f : Nat), vs = [.ref a, .int f] ∧ SqT K H a (bV l) ∧ Pm l ∧ f < 2305843009213693951 ∧ l.length ≤ 10000 ∧ ∀ (p : Addr) (H' : Hp), Same H H' → H p = none → H' p = some (.tup (bV (scl f l))) → Q (.ref p) H'
section
variable {P : Program} {w : World} {K : PySem.W.Frag} {mg : Str → Option Value} {base : Heap}
theorem ok_trm {f : Addr} {fd : FuncData} (D : Dfn K mg "trimmed" strimmed ptrimmed f fd) (B : Bi mg) : FnOk P w K mg base CX0 1 f fd ptrimmed (spTrm K) := by
  have nd := sctrimmed.nd
  refine D.F.ok sctrimmed (fun vs H Q E h => ?_) (fun cdv A outer s H vs Q E hr h => ?_)
  · obtain ⟨a, l, rfl, _⟩ := h
    rfl
  · obtain ⟨a, l, rfl, hs, hl, q⟩ := h
    refine ⟨_, pss_cons (ps_set (i := 1) nd rfl (.inl rfl) (pe_callB call_len_seq (by rfl) B.len PySem.boot_len (pa_cons (pv 0) pa_nil)))
      (pss_cons (ps_while PassesOwn.never (PW.pt (pw_and (pt_cmpR op_gt (pv 1) pe_int (nomark _)) (pw_and1 (pt_cmpR op_eq (pe_ix ix_list (pv 0) (pe_op op_sub (pv 1) pe_int) (fun _ _ => rfl)) pe_int (nomark _)))))
        (pss_one (ps_aug (i := 1) nd rfl (.inl rfl) pe_int (fun pins s σ H x y v u Q I r1 r2 h => iop_sub pins s σ H x y v u Q I r1 r2 h))))
      (pss_one (ps_ret (pe_callTy call_tuple_of (by rfl) B.tuple (by decide +kernel) (pa_cons (pe_slice sl_list (pv 0) po_none (po_some (pv 1))) pa_nil))))), ?_⟩
    refine ⟨_, rfl, a, _, rfl, .inl hs, ?_⟩
    refine ⟨fun m σ H1 => ∃ k : Nat, m = k ∧ σ = [some (.ref a), some (.int k)] ∧ H1 = H ∧ k ≤ l.length ∧ ∀ j, k ≤ j → l.getD j 0 = 0, ⟨l.length, l.length, rfl, by rw [bV_len]; rfl, rfl, Nat.le_refl _, fun j hj => by rw [List.getD_eq_getElem?_getD, List.getElem?_eq_none hj]; rfl⟩, ?_⟩
    rintro m σ H1 ⟨k, rfl, rfl, rfl, hk, hz⟩
    have fin : ∀ (_ : m = 0 ∨ l.getD (m - 1) 0 ≠ 0), tRet (tCB (fun xs H Q => ∃ p ys, xs = [.ref p] ∧ ((SqL K H p ys ∧ ∀ l, H l = none → Q (.ref l) (upd H l (.tup ys))) ∨ (SqT K H p ys ∧ Q (.ref p) H))) (tCons (tSl (rSlL K) (tVar 0) tNoPart (tPart (tVar 1))) tNil)) { nx := fun x H' => Q V.non H', rt := Q } [some (.ref a), some (.int (m : Int))] H1 := fun h => by
      refine ⟨_, rfl, _, rfl, _, rfl, a, _, rfl, hs, fun x nx => ?_⟩
      have sx : Same H1 (upd H1 x (.lst (cutV (bV l) none (some (m : Int))))) := Same.new nx
      refine ⟨x, _, rfl, .inl ⟨SqL.of upd_same, fun p np => ?_⟩⟩
      refine q (l.take m) p _ ⟨m, hk, rfl, h, hz⟩ (sx.trans (Same.new np)) (sx.free np) ?_
      rw [upd_same, pcut_to]
    refine ⟨_, rfl, _, _, rfl, rfl, _, rfl, ?_⟩
    by_cases h0 : m = 0
    · subst h0
      refine iteF ?_
      exact fin (.inl rfl)
    · rw [decide_eq_true (show (0 : Int) < (m : Int) by omega)]
      refine iteT ?_
      have hm1 : m - 1 < l.length := by omega
      have hg : l[m - 1]? = some (l.getD (m - 1) 0) := by rw [List.getD_eq_getElem?_getD, List.getElem?_eq_getElem hm1]; rfl
      refine ⟨_, rfl, _, rfl, _, _, rfl, rfl, a, _, _, _, rfl, rfl, hs, at_of (j := m - 1) (by omega) (bV_at hg), rfl, _, rfl, ?_⟩
      by_cases hv : l.getD (m - 1) 0 = 0
      · rw [show decide (V.int ((l.getD (m - 1) 0 : Nat) : Int) = V.int 0) = true by rw [hv]; rfl]
        refine iteT ?_
        refine ⟨fun σ' H' => ∃ k : Nat, k < m ∧ σ' = [some (.ref a), some (.int k)] ∧ H' = H1 ∧ k ≤ l.length ∧ ∀ j, k ≤ j → l.getD j 0 = 0, fun σ' H' ⟨k, a1, a2, a3, a4, a5⟩ => ⟨k, a1, k, rfl, a2, a3, a4, a5⟩, ?_⟩
        refine ⟨_, rfl, _, _, rfl, rfl, m - 1, by omega, ?_, rfl, by omega, fun j hj => ?_⟩
        · show [_, some (V.int ((m : Int) - 1))] = _
          rw [show (m : Int) - 1 = ((m - 1 : Nat) : Int) by omega]
        · by_cases e : j = m - 1
          · rw [e]; exact hv
          · exact hz j (by omega)
      · rw [show decide (V.int ((l.getD (m - 1) 0 : Nat) : Int) = V.int 0) = false from decide_eq_false fun e => hv (by injection e with e; omega)]
        refine iteF ?_
        exact fin (.inr hv)
theorem ok_val {f : Addr} {fd : FuncData} (D : Dfn K mg "value_of" svalue_of pvalue_of f fd) (T : TP mg) : FnOk P w K mg base CX0 1 f fd pvalue_of (spVal K) := by
  have nd := scvalue_of.nd
  obtain ⟨tp, hp⟩ := T.pr
  refine D.F.ok scvalue_of (fun vs H Q E h => ?_) (fun cdv A outer s H vs Q E hr h => ?_)
  · obtain ⟨a, l, x, rfl, _⟩ := h
    rfl
  · obtain ⟨a, l, x, rfl, hs, hx, q⟩ := h
    refine ⟨_, pss_cons (ps_set (i := 2) nd rfl (.inl rfl) pe_int)
      (pss_cons (ps_for PassesOwn.never rfl (RT.pi_revA (by rfl) T.rev (pv 0)) (pg_name (i := 3) nd rfl (.inl rfl))
        (pss_one (ps_set (i := 2) nd rfl (.inl rfl) (pe_op op_mod (pe_op op_add (pe_op op_mulW (pv 2) (pv 1)) (pv 3)) (pe_glob (v := .int 2305843009213693951) rfl hp ⟨_, rfl⟩)))))
      (pss_one (ps_ret (pv 2)))), ?_⟩
    refine ⟨_, rfl, a, _, rfl, .inr ⟨hs, ?_⟩⟩
    refine for_revT (fun i σ H1 => H1 = H ∧ ∃ v3 : Option V, σ = [some (.ref a), some (.int x), some (.int (hor x (l.drop (l.length - i)) : Nat)), v3]) ⟨rfl, none, by rw [Nat.sub_zero, List.drop_length]; rfl⟩ (fun i σ H1 h => by rw [h.1]; exact hs) ?_ ?_
    · rintro i y σ H1 hi hy ⟨rfl, v3, rfl⟩
      rw [bV_len] at hi hy
      obtain ⟨n, hn, rfl⟩ := bV_get hy
      have hlt := hor_lt x (l.drop (l.length - i))
      have e : hor x (l.drop (l.length - (i + 1))) = md ((hor x (l.drop (l.length - i)) : Nat) * (x : Nat) + (n : Nat)) := by
        have hd : l.drop (l.length - (i + 1)) = n :: l.drop (l.length - i) := by
          rw [List.drop_eq_getElem_cons (by omega), show l.length - (i + 1) + 1 = l.length - i by omega]
          congr 1
          have := (List.getElem?_eq_some_iff.mp hn).2
          rw [← this]
          congr 1
          omega
        rw [hd]
        rfl
      generalize hor x (l.drop (l.length - i)) = z at hlt e
      refine ⟨_, rfl, _, rfl, _, _, rfl, rfl, wide_mul (a := 62) (b := 62) (by omega) (by omega) (by decide) (by decide) (by decide), _, rfl, _, _, rfl, rfl, _, _, rfl, rfl, (by show (0 : Int) < 2305843009213693951; decide), rfl, some (.int n), ?_⟩
      show [_, _, some (V.int (((z : Int) * x + n) % 2305843009213693951)), _] = _
      rw [e, md_int]
    · rintro σ H1 ⟨rfl, v3, rfl⟩
      rw [bV_len, Nat.sub_self, List.drop_zero]
      exact ⟨_, rfl, q⟩
theorem ok_scl {f : Addr} {fd : FuncData} (D : Dfn K mg "poly_scaled" spoly_scaled ppoly_scaled f fd) (B : Bi mg) (T : TP mg) : FnOk P w K mg base CX0 1 f fd ppoly_scaled (spScl K) := by
  have nd := scpoly_scaled.nd
  obtain ⟨tp, hp⟩ := T.pr
  refine D.F.ok scpoly_scaled (fun vs H Q E h => ?_) (fun cdv A outer s H vs Q E hr h => ?_)
  · obtain ⟨a, l, f, rfl, _⟩ := h
    rfl
  · obtain ⟨a, l, f, rfl, hs, hpm, hf, hl, q⟩ := h
    refine ⟨_, pss_one (ps_ret (pe_callTy call_tuple_of (by rfl) B.tuple (by decide +kernel) (pa_cons
        (pe_lc (own := [("number", 2)]) (g := gName 2) (tt := tYes) (te := tOp (rI (fun _ j => 0 < j) fun i j => .int (i % j)) (tOp (rI CMulW fun i j => .int (i * j)) (tVar 2) (tVar 1)) (tC (.int 2305843009213693951))) rfl nd (pi_tup (pv 0)) (blkOk_by (N := npoly_scaled) (sc := defScope spoly_scaled) (by decide +kernel)) (fun _ _ _ _ _ => pg_name (i := 2) nd rfl (.inl rfl)) (fun _ _ _ _ _ => pts_nil)
          (fun _ _ _ _ _ => by exact pe_op op_mod (pe_op op_mulW (pv 2) (pv 1)) (pe_glob (v := .int 2305843009213693951) rfl hp ⟨_, rfl⟩))) pa_nil))), ?_⟩
    refine ⟨_, rfl, a, rfl, ⟨_, hs⟩, fun Dl hD => ?_⟩
    refine lc_tup (K := K) (a := a) (xs := bV l) (fun i H3 => H3 Dl = some (.lst (bV (scl f (l.take i)))) ∧ Same H H3) ⟨upd_same, Same.new hD⟩ (fun i H3 hi h => Same.seqT h.2 hs) ?_ ?_
    · rintro i x H3 hx ⟨hd3, s3⟩
      obtain ⟨n, hn, rfl⟩ := bV_get hx
      have hi : i < l.length := (List.getElem?_eq_some_iff.mp hn).1
      have hn2 := hpm n (List.mem_of_getElem? hn)
      refine ⟨rfl, ?_⟩
      refine yes ?_
      refine ⟨_, rfl, _, rfl, _, _, rfl, rfl, wide_mul (a := 62) (b := 62) (by omega) (by omega) (by decide) (by decide) (by decide), _, _, rfl, rfl, (by show (0 : Int) < 2305843009213693951; decide), ?_⟩
      refine ⟨_, hd3, ?_, ?_, fun b u hb => ?_⟩
      · rw [bV_len]
        unfold scl
        rw [List.length_map, List.length_take, sizeLine_eq]
        omega
      · rw [upd_same, take_more hn]
        unfold scl
        rw [List.map_append, ← bV_append]
        show some (HO.lst (_ ++ [V.int ((n : Int) * (f : Int) % 2305843009213693951)])) = _
        rw [← md_int]
        rfl
      · rw [upd_ne (ne_of_none hb hD)]
        exact s3 _ _ hb
    · rintro H3 ⟨hd3, s3⟩
      rw [bV_len, List.take_length] at hd3
      refine ⟨Dl, _, rfl, .inl ⟨SqL.of hd3, fun p np => ?_⟩⟩
      exact q p _ (s3.trans (Same.new np)) (s3.free np) upd_same
end
end K06
namespace K06
open PySem L2 Pg RZ
/-! ### the program: poly_with -/
abbrev spoly_with : Stmt := top 19
abbrev npoly_with : List Str := ["some_roots", "poly", "root", "low", "high"]
abbrev ppoly_with : List Str := ["some_roots"]
theorem scpoly_with : FnScope npoly_with ppoly_with (defScope spoly_with) := ⟨rfl, rfl, rfl, by decide +kernel, rfl, by decide +kernel, by decide +kernel⟩
def spWith (K : PySem.W.Frag) : Sp := fun vs H Q _ => ∃ (a : Addr) (rs : List Nat), vs = [.ref a] ∧ SqT K H a (bV rs) ∧ Pm rs ∧ rs.length ≤ 60 ∧ ∀ (p : Addr) (H' : Hp), Same H H' → H p = none → H' p = some (.tup (bV (br rs))) → Q (.ref p) H'
theorem rp_more {rs : List Nat} {i r : Nat} (l : List Nat) (h : rs[i]? = some r) : rp l (rs.take (i + 1)) = mr r (rp l (rs.take i)) := by
  unfold rp
  rw [take_more h, List.foldl_append]
  rfl
theorem Pm.cons {n : Nat} {l : List Nat} (hn : n < 2305843009213693951) (h : Pm l) : Pm (n :: l) := fun m hm => by
  rcases List.mem_cons.mp hm with rfl | hm
  · exact hn
  · exact h m hm
theorem Pm.snoc {n : Nat} {l : List Nat} (hn : n < 2305843009213693951) (h : Pm l) : Pm (l ++ [n]) := fun m hm => by
  rcases List.mem_append.mp hm with hm | hm
  · exact h m hm
  · rw [List.mem_singleton.mp hm]; exact hn
theorem pm_one : Pm [1] := fun n hn => by rw [List.mem_singleton.mp hn]; omega
section
variable {P : Program} {w : World} {K : PySem.W.Frag} {mg : Str → Option Value} {base : Heap}
theorem ok_with {f : Addr} {fd : FuncData} (D : Dfn K mg "poly_with" spoly_with ppoly_with f fd) (B : Bi mg) (T : TP mg) : FnOk P w K mg base CX0 1 f fd ppoly_with (spWith K) := by
  have nd := scpoly_with.nd
  obtain ⟨tp, hp⟩ := T.pr
  refine D.F.ok scpoly_with (fun vs H Q E h => ?_) (fun cdv A outer s H vs Q E hr h => ?_)
  · obtain ⟨a, rs, rfl, _⟩ := h
    rfl
  · obtain ⟨a, rs, rfl, hs, hpm, hl, q⟩ := h
    refine ⟨_, pss_cons (ps_set (i := 1) nd rfl (.inl rfl) (pe_lst (pa_cons pe_int pa_nil)))
      (pss_cons (ps_for PassesOwn.never rfl (pi_tup (pv 0)) (pg_name (i := 2) nd rfl (.inr rfl))
        (pss_one (ps_setLc (i := 1) (own := [("low", 3), ("high", 4)]) (g := gTup K 2 (gCons (gName 3) (gCons (gName 4) gNil))) (tt := tYes)
          (te := tOp (rI (fun _ j => 0 < j) fun i j => .int (i % j)) (tOp (rI0 fun i j => .int (i - j)) (tVar 3) (tOp (rI CMulW fun i j => .int (i * j)) (tVar 2) (tVar 4))) (tC (.int 2305843009213693951))) (by rfl) nd rfl rfl (sw_true rfl rfl rfl (by decide +kernel))
          (pi_zip (by rfl) B.zip (pa_cons (pe_op op_cat (pe_lst (pa_cons pe_int pa_nil)) (pv 1)) (pa_cons (pe_op op_cat (pv 1) (pe_lst (pa_cons pe_int pa_nil))) pa_nil)))
          (blkOk_by (N := npoly_with) (sc := defScope spoly_with) (by decide +kernel)) (fun _ _ _ _ _ => pg_tup rfl (pgs_cons (pg_name (i := 3) nd rfl (.inl rfl)) (pgs_cons (pg_name (i := 4) nd rfl (.inl rfl)) pgs_nil)))
          (fun _ _ _ _ _ => pts_nil)
          (fun _ _ _ _ _ => by exact pe_op op_mod (pe_op op_sub (pv 3) (pe_op op_mulW (pv 2) (pv 4))) (pe_glob (v := .int 2305843009213693951) rfl hp ⟨_, rfl⟩)))))
      (pss_one (ps_ret (pe_callTy call_tuple_of (by rfl) B.tuple (by decide +kernel) (pa_cons (pv 1) pa_nil))))), ?_⟩
    refine ⟨by decide, fun o no => ?_⟩
    have s1 : Same H (upd H o (.lst [.int 1])) := Same.new no
    refine ⟨_, rfl, a, rfl, ⟨_, Same.seqT s1 hs⟩, ?_⟩
    refine for_tup (K := K) (a := a) (xs := bV rs) (fun i σ H1 => ∃ (pl : Addr) (v2 v3 v4 : Option V), σ = [some (.ref a), some (.ref pl), v2, v3, v4] ∧ Same H H1 ∧ H pl = none ∧ H1 pl = some (.lst (bV (rp [1] (rs.take i))))) ⟨o, none, none, none, rfl, s1, no, upd_same⟩ ?_ ?_ ?_
    · rintro i σ H1 hi ⟨pl, v2, v3, v4, rfl, s2, np, hpl⟩
      exact Same.seqT s2 hs
    · rintro i x σ H1 hx ⟨pl, v2, v3, v4, rfl, s2, np, hpl⟩
      obtain ⟨r, hr1, rfl⟩ := bV_get hx
      have hi : i < rs.length := (List.getElem?_eq_some_iff.mp hr1).1
      have hrP := hpm r (List.mem_of_getElem? hr1)
      have hlm := rp_pm (rs.take i) [1] pm_one
      have hll : (rp [1] (rs.take i)).length ≤ 61 := by
        rw [rp_len, List.length_take]
        show 1 + _ ≤ 61
        omega
      rw [rp_more [1] hr1]
      generalize rp [1] (rs.take i) = l at hpl hlm hll
      refine ⟨by decide, fun z nz => ?_⟩
      have sz : Same H1 (upd H1 z (.lst [.int 0])) := Same.new nz
      refine ⟨_, rfl, z, pl, _, _, rfl, rfl, upd_same, sz _ _ hpl, ?_, fun zp nzp => ?_⟩
      · rw [bV_len, sizeLine_eq]
        show 1 + l.length ≤ _
        omega
      have sp := sz.trans (Same.new (o := .lst ([V.int 0] ++ bV l)) nzp)
      have hzp : (upd (upd H1 z (.lst [.int 0])) zp (.lst ([V.int 0] ++ bV l))) zp = some (.lst (bV (0 :: l))) := upd_same
      generalize upd (upd H1 z (.lst [.int 0])) zp (.lst ([V.int 0] ++ bV l)) = H2 at sp hzp
      refine ⟨_, rfl, by decide, fun z2 nz2 => ?_⟩
      have sz2 : Same H2 (upd H2 z2 (.lst [.int 0])) := Same.new nz2
      refine ⟨pl, z2, _, _, rfl, rfl, sz2 _ _ (sp _ _ hpl), upd_same, ?_, fun zq nzq => ?_⟩
      · rw [bV_len, sizeLine_eq]
        show l.length + 1 ≤ _
        omega
      have sq := sz2.trans (Same.new (o := .lst (bV l ++ [V.int 0])) nzq)
      have hzq : (upd (upd H2 z2 (.lst [.int 0])) zq (.lst (bV l ++ [V.int 0]))) zq = some (.lst (bV (l ++ [0]))) := by
        rw [upd_same, bV_app]
        rfl
      generalize upd (upd H2 z2 (.lst [.int 0])) zq (.lst (bV l ++ [V.int 0])) = H3 at sq hzq
      have hzp3 := sq _ _ hzp
      refine ⟨zp, zq, _, _, rfl, SqL.of hzp3, SqL.of hzq, fun Dl hD => ?_⟩
      refine lc_it (walk_zip (K := K) (a := zp) (b := zq) (xs := bV (0 :: l)) (ys := bV (l ++ [0])) (n := l.length + 1) (by rw [bV_len, bV_len, List.length_cons, List.length_append]; exact (Nat.min_self _).symm)) (fun j H4 => Same H3 H4 ∧ H4 Dl = some (.lst (bV ((mr r l).take j)))) ?_ ?_ ?_ ?_
      · exact ⟨Same.new hD, by rw [upd_same]; rfl⟩
      · rintro j H4 hj ⟨s4, _⟩
        exact ⟨SqL.of (s4 _ _ hzp3), SqL.of (s4 _ _ hzq)⟩
      · rintro j y H4 H5 hj ⟨s4, hd4⟩ ⟨t, x1, x2, rfl, nt, rfl, e1, e2⟩
        obtain ⟨n1, g1, rfl⟩ := bV_get e1
        obtain ⟨n2, g2, rfl⟩ := bV_get e2
        have s5 : Same H4 (upd H4 t (.tup [V.int (n1 : Int), V.int (n2 : Int)])) := Same.new nt
        have hd5 := s5 _ _ hd4
        have hn2 : n2 < 2305843009213693951 := (Pm.snoc (n := 0) (by omega) hlm) n2 (List.mem_of_getElem? g2)
        have hm : (mr r l)[j]? = some (md ((n1 : Nat) - (r : Nat) * (n2 : Nat))) := by
          unfold mr
          rw [List.getElem?_zipWith, g1, g2]
        refine ⟨t, [V.int (n1 : Int), V.int (n2 : Int)], rfl, .inl (.inl upd_same), rfl, _, _, rfl, _, _, rfl, rfl, rfl, ?_⟩
        refine yes ?_
        refine ⟨_, rfl, _, rfl, _, rfl, _, _, rfl, rfl, wide_mul (a := 62) (b := 62) (by omega) (by omega) (by decide) (by decide) (by decide), _, _, rfl, rfl, _, _, rfl, rfl, (by show (0 : Int) < 2305843009213693951; decide), ?_⟩
        refine ⟨_, hd5, ?_, fun b u hb => ?_, ?_⟩
        · rw [bV_len, List.length_take, sizeLine_eq]
          omega
        · rw [upd_ne (ne_of_none hb hD)]
          exact (s4.trans s5) _ _ hb
        · rw [upd_same, take_more hm, ← bV_append]
          show some (HO.lst (_ ++ [V.int (((n1 : Int) - (r : Int) * (n2 : Int)) % 2305843009213693951)])) = _
          rw [← md_int]
          rfl
      · rintro H4 ⟨s4, hd4⟩
        rw [List.take_of_length_le (by rw [mr_len]; exact Nat.le_refl _)] at hd4
        have s34 := (s2.trans sp).trans (sq.trans s4)
        exact ⟨Dl, some (.int r), v3, v4, rfl, s34, ((s2.trans sp).trans sq).free hD, hd4⟩
    · rintro σ H1 ⟨pl, v2, v3, v4, rfl, s2, np, hpl⟩
      rw [bV_len, List.take_length] at hpl
      refine ⟨_, rfl, pl, _, rfl, .inl ⟨SqL.of hpl, fun p npp => ?_⟩⟩
      exact q p _ (s2.trans (Same.new npp)) (s2.free npp) upd_same
end
end K06
namespace K06
open PySem L2 Pg RZ
/-! ### the program: poly_divided -/
theorem sameF {H H1 : Hp} {p : Addr} {o : HO} (s : Same H H1) (h : H p = none) : Same H (upd H1 p o) := fun b u e => by
  rw [upd_ne (ne_of_none e h)]
  exact s b u e
theorem pbV_set (b : List Nat) (j y : Nat) : (bV b).set j (.int (y : Int)) = bV (b.set j y) := by
  unfold bV
  rw [List.map_set]
theorem pg_at {l : List Nat} {i : Nat} (h : i < l.length) : l[i]? = some (l.getD i 0) := by
  rw [List.getD_eq_getElem?_getD, List.getElem?_eq_getElem h]
  rfl
theorem pix {n j : Nat} {i : Int} (e : i = (j : Int)) (h : j < n) : ixN n i = some j := by
  unfold ixN
  rw [if_pos (by omega), if_pos (by omega)]
  congr 1
  omega
theorem plast {l : List Nat} (h : 0 < l.length) : atI (bV l) (-1) = some (.int (l.getD (l.length - 1) 0 : Nat)) := by
  unfold atI ixN
  rw [bV_len, if_neg (by decide), if_pos (by omega)]
  show (bV l)[(-1 + (l.length : Int)).toNat]? = _
  rw [show (-1 + (l.length : Int)).toNat = l.length - 1 by omega]
  exact bV_at (pg_at (by omega))
theorem gss {R : Type} [Po.Fd R] (a : R) : a - a = 0 := by grind
/-- no zeros at its end -/
def NoZ (l : List Nat) : Prop := l = [] ∨ l.getD (l.length - 1) 0 ≠ 0
theorem Trm.facts {l t : List Nat} (h : Trm l t) (hp : Pm l) : Pm t ∧ NoZ t ∧ cf t = cf l ∧ t.length ≤ l.length := by
  obtain ⟨m, hm, rfl, h0, hz⟩ := h
  have hlen : (l.take m).length = m := by rw [List.length_take]; omega
  refine ⟨fun n hn => hp n (List.mem_of_mem_take hn), ?_, ?_, by rw [hlen]; exact hm⟩
  · rcases h0 with rfl | h0
    · exact .inl rfl
    · by_cases hm0 : m = 0
      · subst hm0; exact .inl rfl
      · refine .inr ?_
        rw [hlen, List.getD_eq_getElem?_getD, List.getElem?_take, if_pos (by omega), ← List.getD_eq_getElem?_getD]
        exact h0
  · funext k
    show c (((l.take m).getD k 0 : Nat) : Int) = c ((l.getD k 0 : Nat) : Int)
    by_cases hk : k < m
    · rw [List.getD_eq_getElem?_getD, List.getElem?_take, if_pos hk, ← List.getD_eq_getElem?_getD]
    · rw [hz k (by omega), List.getD_eq_getElem?_getD, List.getElem?_eq_none (by omega)]
      rfl
theorem Trm.short {l t : List Nat} {n : Nat} (h : Trm l t) (hn : 0 < n) (hz : ∀ j, n - 1 ≤ j → l.getD j 0 = 0) : t.length < n := by
  obtain ⟨m, hm, rfl, h0, _⟩ := h
  rw [List.length_take]
  rcases h0 with rfl | h0
  · omega
  · have : ¬ n - 1 ≤ m - 1 := fun e => h0 (hz _ e)
    omega
abbrev spoly_divided : Stmt := top 16
abbrev npoly_divided : List Str := ["poly", "other", "left", "step", "lead", "quotient", "at", "factor", "k", "number"]
abbrev ppoly_divided : List Str := ["poly", "other"]
theorem scpoly_divided : FnScope npoly_divided ppoly_divided (defScope spoly_divided) := ⟨rfl, rfl, rfl, by decide +kernel, rfl, by decide +kernel, by decide +kernel⟩
/-- what is left -/
structure Rem (A B R : List Nat) : Prop where
  pm : Pm R
  nz : NoZ R
  sh : R.length < B.length
  le : R.length ≤ A.length
  id : Po.I (Po.One (cf B)) (fun k => cf A k - cf R k)
def spDiv (K : PySem.W.Frag) : Sp := fun vs H Q _ => ∃ (a b : Addr) (A B : List Nat), vs = [.ref a, .ref b] ∧ SqT K H a (bV A) ∧ SqT K H b (bV B) ∧ Pm A ∧ Pm B ∧ A.length ≤ 61 ∧ B.length ≤ 61 ∧ B ≠ [] ∧ NoZ B ∧
  ∀ (p qp rp : Addr) (R : List Nat) (H' : Hp), Rem A B R → Same H H' → H p = none → H rp = none → H' p = some (.tup [.ref qp, .ref rp]) → H' rp = some (.tup (bV R)) → Q (.ref p) H'
section
variable {P : Program} {w : World} {K : PySem.W.Frag} {mg : Str → Option Value} {base : Heap}
theorem ok_div {f fI fT : Addr} {fd fdI fdT : FuncData} (D : Dfn K mg "poly_divided" spoly_divided ppoly_divided f fd) (B : Bi mg) (T : TP mg) (DI : Dfn K mg "inverse" sinverse pinverse fI fdI) (DT : Dfn K mg "trimmed" strimmed ptrimmed fT fdT) :
    FnOk P w K mg base CX0 2 f fd ppoly_divided (spDiv K) := by
  have GI : FnOk P w K mg base CX0 1 fI fdI pinverse spInv := ok_inv DI T
  have GT : FnOk P w K mg base CX0 1 fT fdT ptrimmed (spTrm K) := ok_trm DT B
  have nd := scpoly_divided.nd
  obtain ⟨tp, hp⟩ := T.pr
  refine D.F.ok scpoly_divided (fun vs H Q E h => ?_) (fun cdv Ar outer s H vs Q E hr h => ?_)
  · obtain ⟨a, b, A, B', rfl, _⟩ := h
    rfl
  · obtain ⟨a, b, A, C, rfl, ha, hb, hA, hC, la, lb, hne, hnz, q⟩ := h
    refine ⟨_, pss_cons (ps_set (i := 2) nd rfl (.inl rfl) (pe_callTy call_list_of (by rfl) B.list (by decide +kernel) (pa_cons (pv 0) pa_nil)))
      (pss_cons (ps_set (i := 3) nd rfl (.inl rfl) (pe_op op_sub (pe_callB call_len_seq (by rfl) B.len PySem.boot_len (pa_cons (pv 1) pa_nil)) pe_int))
      (pss_cons (ps_set (i := 4) nd rfl (.inl rfl) (pe_call GI hr (by rfl) DI.g DI.F.kp DI.b .nil pass0 (pa_cons (pe_ix ix_tup (pv 1) (pe_un un_neg pe_int) (fun _ _ => rfl)) pa_nil)))
      (pss_cons (ps_set (i := 5) nd rfl (.inl rfl) (pe_lst pa_nil))
      (pss_cons (ps_for PassesOwn.never rfl (pi_range3 (by rfl) B.range (pa_cons (pe_op op_sub (pe_callB call_len_seq (by rfl) B.len PySem.boot_len (pa_cons (pv 0) pa_nil)) (pe_callB call_len_seq (by rfl) B.len PySem.boot_len (pa_cons (pv 1) pa_nil)))
            (pa_cons (pe_un un_neg pe_int) (pa_cons (pe_un un_neg pe_int) pa_nil)))) (pg_name (i := 6) nd rfl (.inl rfl))
        (pss_cons (ps_set (i := 7) nd rfl (.inl rfl) (pe_op op_mod (pe_op op_mulW (pe_ix ix_list (pv 2) (pe_op op_add (pv 6) (pv 3)) (fun _ _ => rfl)) (pv 4)) (pe_glob (v := .int 2305843009213693951) rfl hp ⟨_, rfl⟩)))
        (pss_cons (ps_expr (pe_bm PySem.F.plainAttrs_list PySem.F.slot_list_append PySem.F.type_list_append mt_append (pv 5) (pa_cons (pv 7) pa_nil)))
        (pss_one (ps_for PassesOwn.never rfl (EnT.pi_enumT (by rfl) T.en (pa_cons (pv 1) pa_nil)) (pg_tup rfl (pgs_cons (pg_name (i := 8) nd rfl (.inl rfl)) (pgs_cons (pg_name (i := 9) nd rfl (.inl rfl)) pgs_nil)))
          (pss_one (ps_asg (pe_op op_mod (pe_op op_sub (pe_ix ix_list (pv 2) (pe_op op_add (pv 6) (pv 8)) (fun _ _ => rfl)) (pe_op op_mulW (pv 7) (pv 9))) (pe_glob (v := .int 2305843009213693951) rfl hp ⟨_, rfl⟩)) (pg_sub (pv 2) (pe_op op_add (pv 6) (pv 8)) set_list)))))))
      )
      (pss_one (ps_ret (pe_tup (pa_cons (pe_call GT hr (by rfl) DT.g DT.F.kp DT.b .nil pass0 (pa_cons (pe_revL (pv 5)) pa_nil)) (pa_cons (pe_call GT hr (by rfl) DT.g DT.F.kp DT.b .nil pass0 (pa_cons (pv 2) pa_nil)) pa_nil))))))))), ?_⟩
    have lb0 : 0 < C.length := List.length_pos_iff.mpr hne
    have hlast : C.getD (C.length - 1) 0 ≠ 0 := hnz.elim (fun e => absurd e hne) id
    refine ⟨_, rfl, a, _, rfl, .inr ha, fun lf nlf => ?_⟩
    have s1 : Same H (upd H lf (.lst (bV A))) := Same.new nlf
    have h1 : (upd H lf (.lst (bV A))) lf = some (.lst (bV A)) := upd_same
    generalize upd H lf (.lst (bV A)) = H1 at s1 h1
    refine ⟨_, rfl, b, _, rfl, .inr (Same.seqT s1 hb), _, _, rfl, rfl, ?_⟩
    refine ⟨_, rfl, _, rfl, b, _, _, _, rfl, rfl, Same.seqT s1 hb, plast lb0, C.getD (C.length - 1) 0, rfl, by omega, hC.at _, fun ld H2 ld1 hld s2 => ?_⟩
    have s12 := s1.trans s2
    refine ⟨Nat.zero_le _, fun qo nqo => ?_⟩
    have nqoH : H qo = none := s12.free nqo
    have hlf2 := s2 _ _ h1
    have s3 : Same H (upd H2 qo (.lst [])) := s12.trans (Same.new nqo)
    have hlq : lf ≠ qo := ne_of_none hlf2 nqo
    have hlf3 : (upd H2 qo (.lst [])) lf = some (.lst (bV A)) := by rw [upd_ne hlq]; exact hlf2
    have hqo3 : (upd H2 qo (.lst [])) qo = some (.lst (bV [])) := upd_same
    generalize upd H2 qo (.lst []) = H3 at s3 hlf3 hqo3
    refine ⟨_, rfl, a, _, rfl, .inr (Same.seqT s3 ha), _, rfl, b, _, rfl, .inr (Same.seqT s3 hb), _, _, rfl, rfl, _, rfl, _, rfl, _, _, _, _, rfl, RgC.neg (by rw [bV_len, bV_len]; omega) (by rw [bV_len, bV_len]; omega) (by decide) (by decide), ?_⟩
    refine for_rangeC (fun t σ H4 => ∃ (L qs : List Nat) (v6 v7 v8 v9 : Option V), σ = [some (.ref a), some (.ref b), some (.ref lf), some (.int (((bV C).length : Nat) - 1 : Int)), some (.int ld), some (.ref qo), v6, v7, v8, v9] ∧ Same H H4 ∧ H4 lf = some (.lst (bV L)) ∧ H4 qo = some (.lst (bV qs)) ∧ qs.length = t ∧ L.length = A.length ∧ Pm L ∧ Po.I (Po.One (cf C)) (fun k => cf A k - cf L k) ∧ ∀ j, A.length - t ≤ j → L.getD j 0 = 0)
      ⟨A, [], none, none, none, none, rfl, s3, hlf3, hqo3, rfl, rfl, hA, Po.I.nil fun k => gss _, fun j hj => by rw [List.getD_eq_getElem?_getD, List.getElem?_eq_none (by omega)]; rfl⟩ ?_ ?_
    · rintro t σ H4 ht ⟨L, qs, v6, v7, v8, v9, rfl, s4, hlf4, hqo4, hqs, hL, hLm, hI, hz⟩
      have ht' : t + C.length ≤ A.length := by
        rw [bV_len, bV_len] at ht
        omega
      have eat : (((bV A).length : Nat) : Int) - (((bV C).length : Nat) : Int) + ((t : Nat) : Int) * -1 = ((A.length - C.length - t : Nat) : Int) := by
        rw [bV_len, bV_len]
        omega
      have est : (((bV C).length : Nat) - 1 : Int) = ((C.length - 1 : Nat) : Int) := by
        rw [bV_len]
        omega
      have hLa := hLm.at (A.length - C.length - t + (C.length - 1))
      -- factor
      have ef : ((L.getD (A.length - C.length - t + (C.length - 1)) 0 : Nat) : Int) * (ld : Int) % 2305843009213693951 = ((md ((L.getD (A.length - C.length - t + (C.length - 1)) 0 : Nat) * (ld : Nat)) : Nat) : Int) := (md_int _).symm
      refine ⟨_, rfl, _, rfl, _, rfl, _, _, rfl, rfl, lf, _, _, _, rfl, rfl, SqL.of hlf4, at_of (j := A.length - C.length - t + (C.length - 1)) (by rw [eat, est]; omega) (bV_at (pg_at (by omega))), _, rfl, _, _, rfl, rfl, wide_mul (a := 62) (b := 62) (by omega) (by omega) (by decide) (by decide) (by decide), _, _, rfl, rfl, (by show (0 : Int) < 2305843009213693951; decide), ?_⟩
      refine ⟨_, rfl, .inl ⟨rfl, _, SqL.of hqo4⟩, _, rfl, qo, _, _, rfl, rfl, hqo4, ?_, ?_⟩
      · rw [bV_len, sizeLine_eq]
        omega
      have s5 := sameF (o := .lst (bV qs ++ [V.int (((L.getD (A.length - C.length - t + (C.length - 1)) 0 : Nat) : Int) * (ld : Int) % 2305843009213693951)])) s4 nqoH
      have hqo5 : (upd H4 qo (.lst (bV qs ++ [V.int (((L.getD (A.length - C.length - t + (C.length - 1)) 0 : Nat) : Int) * (ld : Int) % 2305843009213693951)]))) qo = some (.lst (bV (qs ++ [md ((L.getD (A.length - C.length - t + (C.length - 1)) 0 : Nat) * (ld : Nat))]))) := by
        rw [upd_same, bV_app, ef]
      have hlf5 : (upd H4 qo (.lst (bV qs ++ [V.int (((L.getD (A.length - C.length - t + (C.length - 1)) 0 : Nat) : Int) * (ld : Int) % 2305843009213693951)]))) lf = some (.lst (bV L)) := by
        rw [upd_ne hlq]
        exact hlf4
      generalize upd H4 qo (.lst (bV qs ++ [V.int (((L.getD (A.length - C.length - t + (C.length - 1)) 0 : Nat) : Int) * (ld : Int) % 2305843009213693951)])) = H5 at s5 hqo5 hlf5
      refine ⟨_, rfl, b, _, rfl, Same.seqT s5 hb, ?_⟩
      refine EnT.for_enT (fun k σ H6 => ∃ (L' : List Nat) (v8 v9 : Option V), σ = [some (.ref a), some (.ref b), some (.ref lf), some (.int (((bV C).length : Nat) - 1 : Int)), some (.int ld), some (.ref qo), some (.int ((((bV A).length : Nat) : Int) - (((bV C).length : Nat) : Int) + ((t : Nat) : Int) * -1)), some (.int (((L.getD (A.length - C.length - t + (C.length - 1)) 0 : Nat) : Int) * (ld : Int) % 2305843009213693951)), v8, v9] ∧ Same H H6 ∧ H6 lf = some (.lst (bV L')) ∧ H6 qo = some (.lst (bV (qs ++ [md ((L.getD (A.length - C.length - t + (C.length - 1)) 0 : Nat) * (ld : Nat))]))) ∧ Took L C (A.length - C.length - t) (md ((L.getD (A.length - C.length - t + (C.length - 1)) 0 : Nat) * (ld : Nat))) k L')
        ⟨L, v8, v9, rfl, s5, hlf5, hqo5, took0 hLm⟩ (fun k σ H6 h => by obtain ⟨L', v8, v9, _, s6, _⟩ := h; exact Same.seqT s6 hb) ?_ ?_
      · rintro k x Tt σ H6 hx ⟨L', v8, v9, rfl, s6, hl6, hq6, hT⟩ nT
        obtain ⟨num, hn, rfl⟩ := bV_get hx
        have hk : k < C.length := (List.getElem?_eq_some_iff.mp hn).1
        have hnum : num = C.getD k 0 := by rw [List.getD_eq_getElem?_getD, hn]; rfl
        have hnP := hC num (List.mem_of_getElem? hn)
        have s7 := s6.trans (Same.new (o := .tup [.int (k : Nat), .int (num : Nat)]) nT)
        have hl7 := (Same.new (o := .tup [.int (k : Nat), .int (num : Nat)]) nT) _ _ hl6
        have hq7 := (Same.new (o := .tup [.int (k : Nat), .int (num : Nat)]) nT) _ _ hq6
        refine ⟨Tt, [V.int (k : Int), V.int (num : Int)], rfl, .inl (.inl upd_same), rfl, _, _, rfl, _, _, rfl, rfl, ?_⟩
        generalize upd H6 Tt (.tup [.int (k : Nat), .int (num : Nat)]) = H7 at s7 hl7 hq7
        have hL'len := hT.1
        have hLk := hT.2.1.at (A.length - C.length - t + k)
        have hN := hT.next (by omega)
        refine ⟨_, rfl, _, rfl, _, rfl, _, _, rfl, rfl, lf, _, _, _, rfl, rfl, SqL.of hl7, at_of (j := A.length - C.length - t + k) (by rw [eat]; omega) (bV_at (pg_at (by omega))), _, rfl, _, rfl, _, _, rfl, rfl, wide_mul (a := 62) (b := 62) (by rw [ef]; have := md_lt (((L.getD (A.length - C.length - t + (C.length - 1)) 0 : Nat) : Int) * (ld : Int)); omega) (by omega) (by decide) (by decide) (by decide), _, _, rfl, rfl, _, _, rfl, rfl, (by show (0 : Int) < 2305843009213693951; decide), ?_⟩
        refine ⟨_, rfl, _, rfl, _, rfl, _, _, rfl, rfl, lf, _, _, A.length - C.length - t + k, rfl, rfl, hl7, ?_, ?_⟩
        · rw [bV_len]
          exact pix (by rw [eat]; omega) (by omega)
        refine ⟨_, _, _, rfl, sameF s7 nlf, ?_, ?_, hN⟩
        · show upd H7 lf (.lst ((bV L').set (A.length - C.length - t + k) (.int ((((L'.getD (A.length - C.length - t + k) 0 : Nat) : Int) - ((L.getD (A.length - C.length - t + (C.length - 1)) 0 : Nat) : Int) * (ld : Int) % 2305843009213693951 * (num : Int)) % 2305843009213693951)))) lf = _
          rw [upd_same, ef, ← md_int, pbV_set, hnum]
        · rw [upd_ne (Ne.symm hlq)]
          exact hq7
      · rintro σ H6 ⟨L', v8, v9, rfl, s6, hl6, hq6, hT⟩
        rw [bV_len] at hT
        have hl1 : c (ld : Nat) * c (C.getD (C.length - 1) 0 : Nat) = 1 := hld
        obtain ⟨hI2, hz2⟩ := hT.step (poly := A) (lead := ld) hC lb0 hl1 rfl hI (fun j hj => hz j (by omega))
        refine ⟨L', _, _, _, _, _, rfl, s6, hl6, hq6, ?_, by rw [hT.1, hL], hT.2.1, hI2, fun j hj => hz2 j (by omega)⟩
        rw [List.length_append, hqs]
        rfl
    · rintro σ H4 ⟨L, qs, v6, v7, v8, v9, rfl, s4, hlf4, hqo4, hqs, hL, hLm, hI, hz⟩
      rw [bV_len, bV_len] at hz hqs
      refine ⟨_, rfl, qo, _, rfl, SqL.of hqo4, fun rv nrv => ?_⟩
      have s5 := s4.trans (Same.new (o := .lst (bV qs).reverse) nrv)
      have hlf5 := (Same.new (o := .lst (bV qs).reverse) nrv) _ _ hlf4
      have hrv5 : (upd H4 rv (.lst (bV qs).reverse)) rv = some (.lst (bV qs.reverse)) := by
        rw [upd_same]
        unfold bV
        rw [List.map_reverse]
      generalize upd H4 rv (.lst (bV qs).reverse) = H5 at s5 hlf5 hrv5
      refine ⟨rv, qs.reverse, rfl, SqL.of hrv5, by rw [List.length_reverse]; omega, fun qt qp H6 hqt s6 nqp hqp => ?_⟩
      have s56 := s5.trans s6
      refine ⟨_, rfl, lf, L, rfl, SqL.of (s6 _ _ hlf5), by omega, fun R rp H7 hR s7 nrp hrp => ?_⟩
      have s57 := s56.trans s7
      obtain ⟨r1, r2, r3, r4⟩ := hR.facts hLm
      refine ⟨(by show 2 ≤ sizeLine; decide), fun p np => ?_⟩
      refine q p qp rp R _ ⟨r1, r2, hR.short lb0 (fun j hj => hz j (by omega)), by omega, by rw [r3]; exact hI⟩ (s57.trans (Same.new np)) (s57.free np) (s56.free nrp) upd_same ((Same.new np) _ _ hrp)
end
end K06
namespace K06
open PySem L2 Pg RZ
/-! ### the program: monic, divisor -/
abbrev smonic : Stmt := top 17
abbrev nmonic : List Str := ["poly"]
abbrev pmonic : List Str := ["poly"]
theorem scmonic : FnScope nmonic pmonic (defScope smonic) := ⟨rfl, rfl, rfl, by decide +kernel, rfl, by decide +kernel, by decide +kernel⟩
/-- with 1 as its leading number -/
def Mon (A M : List Nat) : Prop := (A = [] ∧ M = []) ∨ (A ≠ [] ∧ ∃ r : Nat, c (r : Nat) * c (A.getD (A.length - 1) 0 : Nat) = 1 ∧ M = scl r A)
def spMon (K : PySem.W.Frag) : Sp := fun vs H Q _ => ∃ (a : Addr) (A : List Nat), vs = [.ref a] ∧ SqT K H a (bV A) ∧ Pm A ∧ NoZ A ∧ A.length ≤ 61 ∧ ∀ (M : List Nat) (p : Addr) (H' : Hp), Mon A M → Same H H' → SqT K H' p (bV M) → Q (.ref p) H'
abbrev sdivisor : Stmt := top 18
abbrev ndivisor : List Str := ["poly", "other"]
abbrev pdivisor : List Str := ["poly", "other"]
theorem scdivisor : FnScope ndivisor pdivisor (defScope sdivisor) := ⟨rfl, rfl, rfl, by decide +kernel, rfl, by decide +kernel, by decide +kernel⟩
structure GcdP (A B G : List Nat) : Prop where
  pm : Pm G
  nz : NoZ G
  le : G.length ≤ 61
  i : Po.I (Po.Two (cf A) (cf B)) (cf G)
  a : Po.I (Po.One (cf G)) (cf A)
  b : Po.I (Po.One (cf G)) (cf B)
structure Eus (A B X Y : List Nat) : Prop where
  px : Pm X
  py : Pm Y
  nx : NoZ X
  ny : NoZ Y
  lx : X.length ≤ 61
  ly : Y.length ≤ 61
  i1 : Po.I (Po.Two (cf A) (cf B)) (cf X)
  i2 : Po.I (Po.Two (cf A) (cf B)) (cf Y)
  j1 : Po.I (Po.Two (cf X) (cf Y)) (cf A)
  j2 : Po.I (Po.Two (cf X) (cf Y)) (cf B)
theorem gsb {R : Type} [Po.Fd R] (a b : R) : a - (a - b) = b := by grind
theorem gad {R : Type} [Po.Fd R] (a b : R) : (a - b) + b = a := by grind
theorem Eus.next {A B X Y R : List Nat} (E : Eus A B X Y) (h : Rem X Y R) : Eus A B Y R where
  px := E.py
  py := h.pm
  nx := E.ny
  ny := h.nz
  lx := E.ly
  ly := Nat.le_trans h.le E.lx
  i1 := E.i2
  i2 := by
    have h1 : Po.I (Po.Two (cf A) (cf B)) (fun k => cf X k - cf R k) := h.id.of fun f e => by rw [e]; exact E.i2
    have h2 := E.i1.sub h1
    have e : (fun k => cf X k - (cf X k - cf R k)) = cf R := by
      funext k
      exact gsb _ _
    rw [e] at h2
    exact h2
  j1 := E.j1.of fun f e => by
    rcases e with e | e
    · rw [e]
      have h1 : Po.I (Po.Two (cf Y) (cf R)) (fun k => cf X k - cf R k) := h.id.of fun f e => by rw [e]; exact .base (.inl rfl)
      have h2 := h1.add (.base (S := Po.Two (cf Y) (cf R)) (.inr rfl))
      have e : Po.add (fun k => cf X k - cf R k) (cf R) = cf X := by
        funext k
        exact gad _ _
      rw [e] at h2
      exact h2
    · rw [e]; exact .base (.inl rfl)
  j2 := E.j2.of fun f e => by
    rcases e with e | e
    · rw [e]
      have h1 : Po.I (Po.Two (cf Y) (cf R)) (fun k => cf X k - cf R k) := h.id.of fun f e => by rw [e]; exact .base (.inl rfl)
      have h2 := h1.add (.base (S := Po.Two (cf Y) (cf R)) (.inr rfl))
      have e : Po.add (fun k => cf X k - cf R k) (cf R) = cf X := by
        funext k
        exact gad _ _
      rw [e] at h2
      exact h2
    · rw [e]; exact .base (.inl rfl)
theorem Eus.stop {A B X : List Nat} (E : Eus A B X []) : GcdP A B X where
  pm := E.px
  nz := E.nx
  le := E.lx
  i := E.i1
  a := E.j1.of fun f e => by
    rcases e with e | e
    · rw [e]; exact .base rfl
    · exact Po.I.nil fun k => by rw [e]; exact cf_far (Nat.zero_le _)
  b := E.j2.of fun f e => by
    rcases e with e | e
    · rw [e]; exact .base rfl
    · exact Po.I.nil fun k => by rw [e]; exact cf_far (Nat.zero_le _)
def spGcd (K : PySem.W.Frag) : Sp := fun vs H Q _ => ∃ (a b : Addr) (A B : List Nat), vs = [.ref a, .ref b] ∧ SqT K H a (bV A) ∧ SqT K H b (bV B) ∧ Pm A ∧ Pm B ∧ NoZ A ∧ NoZ B ∧ A.length ≤ 61 ∧ B.length ≤ 61 ∧
  ∀ (G M : List Nat) (p : Addr) (H' : Hp), GcdP A B G → Mon G M → Same H H' → SqT K H' p (bV M) → Q (.ref p) H'
section
variable {P : Program} {w : World} {K : PySem.W.Frag} {mg : Str → Option Value} {base : Heap}
theorem ok_mon {f fI fS : Addr} {fd fdI fdS : FuncData} (D : Dfn K mg "monic" smonic pmonic f fd) (B : Bi mg) (T : TP mg) (DI : Dfn K mg "inverse" sinverse pinverse fI fdI) (DS : Dfn K mg "poly_scaled" spoly_scaled ppoly_scaled fS fdS) :
    FnOk P w K mg base CX0 2 f fd pmonic (spMon K) := by
  have GI : FnOk P w K mg base CX0 1 fI fdI pinverse spInv := ok_inv DI T
  have GS : FnOk P w K mg base CX0 1 fS fdS ppoly_scaled (spScl K) := ok_scl DS B T
  have nd := scmonic.nd
  refine D.F.ok scmonic (fun vs H Q E h => ?_) (fun cdv Ar outer s H vs Q E hr h => ?_)
  · obtain ⟨a, A, rfl, _⟩ := h
    rfl
  · obtain ⟨a, A, rfl, ha, hA, hz, hl, q⟩ := h
    refine ⟨_, pss_one (ps_ret (pe_ifExp (pt_cmpR op_gt (pe_callB call_len_seq (by rfl) B.len PySem.boot_len (pa_cons (pv 0) pa_nil)) pe_int (nomark _))
      (pe_call GS hr (by rfl) DS.g DS.F.kp DS.b .nil pass0 (pa_cons (pv 0) (pa_cons (pe_call GI hr (by rfl) DI.g DI.F.kp DI.b .nil pass0 (pa_cons (pe_ix ix_tup (pv 0) (pe_un un_neg pe_int) (fun _ _ => rfl)) pa_nil)) pa_nil))) (pv 0))), ?_⟩
    refine ⟨_, rfl, a, _, rfl, .inr ha, _, _, rfl, rfl, _, rfl, ?_⟩
    rw [bV_len]
    by_cases h0 : A = []
    · subst h0
      refine iteF ?_
      exact ⟨_, rfl, q [] a H (.inl ⟨rfl, rfl⟩) (Same.refl _) ha⟩
    · have hl0 : 0 < A.length := List.length_pos_iff.mpr h0
      have hlast : A.getD (A.length - 1) 0 ≠ 0 := hz.elim (fun e => absurd e h0) id
      rw [decide_eq_true (show (0 : Int) < (A.length : Int) by omega)]
      refine iteT ?_
      refine ⟨_, rfl, _, rfl, _, rfl, a, _, _, _, rfl, rfl, ha, plast hl0, A.getD (A.length - 1) 0, rfl, by omega, hA.at _, fun r H1 hr1 hr2 s1 => ?_⟩
      refine ⟨a, A, r, rfl, Same.seqT s1 ha, hA, hr1, by omega, fun p H2 s2 np hp => ?_⟩
      exact q (scl r A) p H2 (.inr ⟨h0, r, hr2, rfl⟩) (s1.trans s2) (.inl (.inl hp))
theorem ok_gcd {f fI fS fT fD fM : Addr} {fd fdI fdS fdT fdD fdM : FuncData} (D : Dfn K mg "divisor" sdivisor pdivisor f fd) (B : Bi mg) (T : TP mg) (DI : Dfn K mg "inverse" sinverse pinverse fI fdI) (DS : Dfn K mg "poly_scaled" spoly_scaled ppoly_scaled fS fdS)
    (DT : Dfn K mg "trimmed" strimmed ptrimmed fT fdT) (DD : Dfn K mg "poly_divided" spoly_divided ppoly_divided fD fdD) (DM : Dfn K mg "monic" smonic pmonic fM fdM) : FnOk P w K mg base CX0 3 f fd pdivisor (spGcd K) := by
  have GD : FnOk P w K mg base CX0 2 fD fdD ppoly_divided (spDiv K) := ok_div DD B T DI DT
  have GM : FnOk P w K mg base CX0 2 fM fdM pmonic (spMon K) := ok_mon DM B T DI DS
  have nd := scdivisor.nd
  refine D.F.ok scdivisor (fun vs H Q E h => ?_) (fun cdv Ar outer s H vs Q E hr h => ?_)
  · obtain ⟨a, b, A, C, rfl, _⟩ := h
    rfl
  · obtain ⟨a, b, A, C, rfl, ha, hb, hA, hC, zA, zC, la, lb, q⟩ := h
    refine ⟨_, pss_cons (ps_while PassesOwn.never (pt_cmpR op_gt (pe_callB call_len_seq (by rfl) B.len PySem.boot_len (pa_cons (pv 1) pa_nil)) pe_int (nomark _))
        (pss_one (ps_par (i := 0) (j := 1) (by rfl) nd rfl rfl (by decide) rfl rfl (pa_cons (pv 1) (pa_cons (pe_ix ix_tup (pe_call GD hr (by rfl) DD.g DD.F.kp DD.b .nil pass0 (pa_cons (pv 0) (pa_cons (pv 1) pa_nil))) pe_int (fun _ _ => rfl)) pa_nil)) (by rfl))))
      (pss_one (ps_ret (pe_call GM hr (by rfl) DM.g DM.F.kp DM.b .nil pass0 (pa_cons (pv 0) pa_nil)))), ?_⟩
    refine ⟨fun m σ H1 => ∃ (x y : Addr) (X Y : List Nat), m = Y.length ∧ σ = [some (.ref x), some (.ref y)] ∧ Same H H1 ∧ SqT K H1 x (bV X) ∧ SqT K H1 y (bV Y) ∧ Eus A C X Y,
      ⟨C.length, a, b, A, C, rfl, rfl, Same.refl _, ha, hb, ⟨hA, hC, zA, zC, la, lb, .base (.inl rfl), .base (.inr rfl), .base (.inl rfl), .base (.inr rfl)⟩⟩, ?_⟩
    rintro m σ H1 ⟨x, y, X, Y, rfl, rfl, s1, hx, hy, U⟩
    refine ⟨_, rfl, y, _, rfl, .inr hy, _, _, rfl, rfl, _, rfl, ?_⟩
    rw [bV_len]
    by_cases h0 : Y = []
    · subst h0
      refine iteF ?_
      exact ⟨_, rfl, x, X, rfl, hx, U.px, U.nx, U.lx, fun M p H2 hM s2 hp => q X M p H2 U.stop hM (s1.trans s2) hp⟩
    · have hl0 : 0 < Y.length := List.length_pos_iff.mpr h0
      rw [decide_eq_true (show (0 : Int) < (Y.length : Int) by omega)]
      refine iteT ?_
      refine ⟨fun σ' H' => ∃ (x y : Addr) (X Y' : List Nat), Y'.length < Y.length ∧ σ' = [some (.ref x), some (.ref y)] ∧ Same H H' ∧ SqT K H' x (bV X) ∧ SqT K H' y (bV Y') ∧ Eus A C X Y', fun σ' H' ⟨x, y, X, Y', h1, h2, h3, h4, h5, h6⟩ => ⟨_, h1, x, y, X, Y', rfl, h2, h3, h4, h5, h6⟩, ?_⟩
      refine ⟨_, rfl, _, rfl, _, rfl, x, y, X, Y, rfl, hx, hy, U.px, U.py, U.lx, U.ly, h0, U.ny, fun p qp rp R H2 hR s2 np nrp hp hrp => ?_⟩
      refine ⟨p, _, _, _, rfl, rfl, .inl (.inl hp), rfl, _, _, rfl, ?_⟩
      exact ⟨y, rp, Y, R, hR.sh, rfl, s1.trans s2, Same.seqT s2 hy, .inl (.inl hrp), U.next hR⟩
end
end K06
namespace K06
open PySem L2 Pg RZ
/-! ### the program: the checks, value_at, by_roots, common -/
abbrev sis_number : Stmt := top 9
abbrev nis_number : List Str := ["value"]
abbrev pis_number : List Str := ["value"]
theorem scis_number : FnScope nis_number pis_number (defScope sis_number) := ⟨rfl, rfl, rfl, by decide +kernel, rfl, by decide +kernel, by decide +kernel⟩
def spNm : Sp := fun vs H Q _ => ∃ (n : Nat), vs = [.int n] ∧ n < 2305843009213693951 ∧ Q (.bl true) H
abbrev sis_numbers : Stmt := top 10
abbrev nis_numbers : List Str := ["value", "most", "number"]
abbrev pis_numbers : List Str := ["value", "most"]
theorem scis_numbers : FnScope nis_numbers pis_numbers (defScope sis_numbers) := ⟨rfl, rfl, rfl, by decide +kernel, rfl, by decide +kernel, by decide +kernel⟩
def spNms (K : PySem.W.Frag) : Sp := fun vs H Q _ => ∃ (a : Addr) (l : List Nat) (m : Nat), vs = [.ref a, .int m] ∧ SqT K H a (bV l) ∧ Pm l ∧ l.length ≤ m ∧ m ≤ 10000 ∧ ∀ H', Same H H' → Q (.bl true) H'
abbrev sis_poly : Stmt := top 11
abbrev nis_poly : List Str := ["value"]
abbrev pis_poly : List Str := ["value"]
theorem scis_poly : FnScope nis_poly pis_poly (defScope sis_poly) := ⟨rfl, rfl, rfl, by decide +kernel, rfl, by decide +kernel, by decide +kernel⟩
def spPol (K : PySem.W.Frag) : Sp := fun vs H Q _ => ∃ (a : Addr) (l : List Nat), vs = [.ref a] ∧ SqT K H a (bV l) ∧ Pm l ∧ NoZ l ∧ l.length ≤ 61 ∧ ∀ H', Same H H' → Q (.bl true) H'
abbrev svalue_at : Stmt := top 20
abbrev nvalue_at : List Str := ["poly", "place"]
abbrev pvalue_at : List Str := ["poly", "place"]
theorem scvalue_at : FnScope nvalue_at pvalue_at (defScope svalue_at) := ⟨rfl, rfl, rfl, by decide +kernel, rfl, by decide +kernel, by decide +kernel⟩
def spVat (K : PySem.W.Frag) : Sp := fun vs H Q _ => ∃ (a : Addr) (l : List Nat) (x : Nat), vs = [.ref a, .int x] ∧ SqT K H a (bV l) ∧ Pm l ∧ NoZ l ∧ l.length ≤ 61 ∧ x < 2305843009213693951 ∧ ∀ H', Same H H' → Q (.int (hor x l : Nat)) H'
abbrev sby_roots : Stmt := top 21
abbrev nby_roots : List Str := ["roots"]
abbrev pby_roots : List Str := ["roots"]
theorem scby_roots : FnScope nby_roots pby_roots (defScope sby_roots) := ⟨rfl, rfl, rfl, by decide +kernel, rfl, by decide +kernel, by decide +kernel⟩
abbrev scommon : Stmt := top 22
abbrev ncommon : List Str := ["poly", "other"]
abbrev pcommon : List Str := ["poly", "other"]
theorem sccommon : FnScope ncommon pcommon (defScope scommon) := ⟨rfl, rfl, rfl, by decide +kernel, rfl, by decide +kernel, by decide +kernel⟩
theorem pall : ∀ (n : Nat), (List.replicate n true).all id = true
  | 0 => rfl
  | n + 1 => by
    rw [List.replicate_succ, List.all_cons, pall n]
    rfl
theorem dI_shaped {l : List Nat} (h : l.length ≤ 100000) : SeqAt.shaped (.tuple (dI l)) = true := (dI_pl h).shaped (by decide)
theorem dI_eqvT (l m : List Nat) : PyData.eqv (.tuple (dI l)) (.tuple (dI m)) = decide (l = m) := by
  simp only [PyData.eqv]
  exact dI_eqvAll l m
section
variable {P : Program} {w : World} {K : PySem.W.Frag} {mg : Str → Option Value} {base : Heap}
theorem ok_nm {f fB : Addr} {fd fdB : FuncData} (D : Dfn K mg "is_number" sis_number pis_number f fd) (B : Bi mg) (T : TP mg) (DB : Dfn K mg "is_between" sis_between pis_between fB fdB) : FnOk P w K mg base CX0 2 f fd pis_number spNm := by
  have GB : FnOk P w K mg base CX0 1 fB fdB pis_between spBtw := ok_btw DB B
  have nd := scis_number.nd
  obtain ⟨tp, hp⟩ := T.pr
  refine D.F.ok scis_number (fun vs H Q E h => ?_) (fun cdv A outer s H vs Q E hr h => ?_)
  · obtain ⟨n, rfl, _⟩ := h
    rfl
  · obtain ⟨n, rfl, hn, q⟩ := h
    refine ⟨_, pss_one (ps_ret (pe_call GB hr (by rfl) DB.g DB.F.kp DB.b .nil pass0 (pa_cons (pv 0) (pa_cons pe_int (pa_cons (pe_op op_sub (pe_glob (v := .int 2305843009213693951) rfl hp ⟨_, rfl⟩) pe_int) pa_nil))))), ?_⟩
    refine ⟨_, rfl, _, _, rfl, rfl, n, 0, 2305843009213693950, rfl, ?_⟩
    rw [decide_eq_true (show (0 : Int) ≤ (n : Int) ∧ (n : Int) ≤ 2305843009213693950 by omega)]
    exact q
theorem ok_nms {f fN fB : Addr} {fd fdN fdB : FuncData} (D : Dfn K mg "is_numbers" sis_numbers pis_numbers f fd) (B : Bi mg) (T : TP mg) (DN : Dfn K mg "is_number" sis_number pis_number fN fdN) (DB : Dfn K mg "is_between" sis_between pis_between fB fdB) :
    FnOk P w K mg base CX0 3 f fd pis_numbers (spNms K) := by
  have GN : FnOk P w K mg base CX0 2 fN fdN pis_number spNm := ok_nm DN B T DB
  have nd := scis_numbers.nd
  refine D.F.ok scis_numbers (fun vs H Q E h => ?_) (fun cdv A outer s H vs Q E hr h => ?_)
  · obtain ⟨a, l, m, rfl, _⟩ := h
    rfl
  · obtain ⟨a, l, m, rfl, hs, hpm, hl, hm, q⟩ := h
    refine ⟨_, pss_one (ps_ret (pe_and (pe_cmpR op_isTyB (pe_callTy call_type1 (by rfl) B.type (by decide +kernel) (pa_cons (pv 0) pa_nil)) (pe_bltn (v := .ty "tuple") (by rfl) B.tuple (by decide +kernel) rfl) (nomark _))
      (pe_and (pe_cmpR op_le (pe_callB call_len_seq (by rfl) B.len PySem.boot_len (pa_cons (pv 0) pa_nil)) (pv 1) (nomark _))
      (pe_one (pe_callB (cr_all rfl) (by rfl) B.all (by decide +kernel) (pa_cons
          (pe_lc (own := [("number", 2)]) (g := gName 2) (tt := tYes) rfl nd (pi_tup (pv 0)) (blkOk_by (N := nis_numbers) (sc := defScope sis_numbers) (by decide +kernel)) (fun _ _ _ _ _ => pg_name (i := 2) nd rfl (.inl rfl)) (fun _ _ _ _ _ => pts_nil)
            (fun _ _ _ _ _ => pe_call GN hr (by rfl) DN.g DN.F.kp DN.b .nil pass0 (pa_cons (pv 2) pa_nil))) pa_nil)))))), ?_⟩
    refine ⟨_, rfl, _, "tuple", rfl, .tup hs, _, _, rfl, rfl, _, rfl, ?_⟩
    refine iteT ?_
    refine ⟨_, rfl, a, _, rfl, .inr hs, _, rfl, _, _, rfl, rfl, _, rfl, ?_⟩
    rw [bV_len, decide_eq_true (show (l.length : Int) ≤ (m : Int) by omega)]
    refine iteT ?_
    refine ⟨_, rfl, a, rfl, ⟨_, hs⟩, fun Dl hD => ?_⟩
    refine lc_tup (K := K) (a := a) (xs := bV l) (fun i H3 => H3 Dl = some (.lst ((List.replicate i true).map V.bl)) ∧ Same H H3) ⟨upd_same, Same.new hD⟩ (fun i H3 hi h => Same.seqT h.2 hs) ?_ ?_
    · rintro i x H3 hx ⟨hd3, s3⟩
      obtain ⟨n, hn, rfl⟩ := bV_get hx
      have hi : i < l.length := (List.getElem?_eq_some_iff.mp hn).1
      refine ⟨rfl, ?_⟩
      refine yes ?_
      refine ⟨_, rfl, n, rfl, hpm n (List.mem_of_getElem? hn), ?_⟩
      refine ⟨_, hd3, ?_, ?_, fun b u hb => ?_⟩
      · rw [List.length_map, List.length_replicate, sizeLine_eq]
        omega
      · rw [upd_same, List.replicate_succ', List.map_append]
        rfl
      · rw [upd_ne (ne_of_none hb hD)]
        exact s3 _ _ hb
    · rintro H3 ⟨hd3, s3⟩
      refine ⟨Dl, _, rfl, SqL.of hd3, ?_⟩
      rw [pall]
      exact q _ s3
theorem ok_pol {f fS fN fB : Addr} {fd fdS fdN fdB : FuncData} (D : Dfn K mg "is_poly" sis_poly pis_poly f fd) (B : Bi mg) (T : TP mg) (DS : Dfn K mg "is_numbers" sis_numbers pis_numbers fS fdS) (DN : Dfn K mg "is_number" sis_number pis_number fN fdN) (DB : Dfn K mg "is_between" sis_between pis_between fB fdB) :
    FnOk P w K mg base CX0 4 f fd pis_poly (spPol K) := by
  have GS : FnOk P w K mg base CX0 3 fS fdS pis_numbers (spNms K) := ok_nms DS B T DN DB
  have nd := scis_poly.nd
  obtain ⟨tm, hmr⟩ := T.mr
  refine D.F.ok scis_poly (fun vs H Q E h => ?_) (fun cdv A outer s H vs Q E hr h => ?_)
  · obtain ⟨a, l, rfl, _⟩ := h
    rfl
  · obtain ⟨a, l, rfl, hs, hpm, hz, hl, q⟩ := h
    refine ⟨_, pss_one (ps_ret (pe_and (pe_call GS hr (by rfl) DS.g DS.F.kp DS.b .nil pass0 (pa_cons (pv 0) (pa_cons (pe_op op_add (pe_glob (v := .int 60) rfl hmr ⟨_, rfl⟩) pe_int) pa_nil)))
      (pe_one (pe_or (pe_cmpR (op_eqD hr.units) (pv 0) (pe_tup pa_nil) (nomark _))
        (pe_one (pe_cmpR op_ne (pe_ix ix_tup (pv 0) (pe_un un_neg pe_int) (fun _ _ => rfl)) pe_int (nomark _))))))), ?_⟩
    refine ⟨_, rfl, _, _, rfl, rfl, a, l, 61, rfl, hs, hpm, by omega, by decide, fun H1 s1 => ?_⟩
    refine ⟨_, rfl, ?_⟩
    refine iteT ?_
    have hs1 := Same.seqT s1 hs
    refine ⟨_, rfl, Nat.zero_le _, fun z nz => ?_⟩
    have s2 : Same H1 (upd H1 z (.tup [])) := Same.new nz
    have hs2 := Same.seqT s2 hs1
    refine ⟨.tuple (dI l), .tuple (dI []), .tup hs2 (dI_all _ _ _), .tup (.inl (.inl upd_same)) .nil, dI_shaped (by omega), dI_shaped (by decide), ?_⟩
    rw [dI_eqvT]
    refine ⟨_, rfl, ?_⟩
    by_cases h0 : l = []
    · rw [decide_eq_true h0]
      refine iteT ?_
      exact q _ (s1.trans s2)
    · rw [decide_eq_false h0]
      refine iteF ?_
      have hl0 : 0 < l.length := List.length_pos_iff.mpr h0
      have hlast : l.getD (l.length - 1) 0 ≠ 0 := hz.elim (fun e => absurd e h0) id
      refine ⟨_, rfl, _, rfl, a, _, _, _, rfl, rfl, hs2, plast hl0, rfl, ?_⟩
      show Q (V.bl (!decide (V.int ((l.getD (l.length - 1) 0 : Nat) : Int) = V.int 0))) _
      rw [decide_eq_false (show ¬ V.int ((l.getD (l.length - 1) 0 : Nat) : Int) = V.int 0 from fun e => hlast (by injection e with e; omega))]
      exact q _ (s1.trans s2)
theorem ok_vat {f fP fS fN fB fV : Addr} {fd fdP fdS fdN fdB fdV : FuncData} (D : Dfn K mg "value_at" svalue_at pvalue_at f fd) (B : Bi mg) (T : TP mg) (DP : Dfn K mg "is_poly" sis_poly pis_poly fP fdP) (DS : Dfn K mg "is_numbers" sis_numbers pis_numbers fS fdS) (DN : Dfn K mg "is_number" sis_number pis_number fN fdN) (DB : Dfn K mg "is_between" sis_between pis_between fB fdB)
    (DV : Dfn K mg "value_of" svalue_of pvalue_of fV fdV) : FnOk P w K mg base CX0 5 f fd pvalue_at (spVat K) := by
  have GP : FnOk P w K mg base CX0 4 fP fdP pis_poly (spPol K) := ok_pol DP B T DS DN DB
  have GN : FnOk P w K mg base CX0 2 fN fdN pis_number spNm := ok_nm DN B T DB
  have GV : FnOk P w K mg base CX0 1 fV fdV pvalue_of (spVal K) := ok_val DV T
  have nd := scvalue_at.nd
  refine D.F.ok scvalue_at (fun vs H Q E h => ?_) (fun cdv A outer s H vs Q E hr h => ?_)
  · obtain ⟨a, l, x, rfl, _⟩ := h
    rfl
  · obtain ⟨a, l, x, rfl, hs, hpm, hz, hl, hx, q⟩ := h
    have hr2 : Room 2 _ := hr.mono (by decide)
    have hr1 : Room 1 _ := hr.mono (by decide)
    refine ⟨_, pss_cons (ps_if (pt_not (pt_val (pe_call GP hr (by rfl) DP.g DP.F.kp DP.b .nil pass0 (pa_cons (pv 0) pa_nil)))) (pss_one ps_never) pss_nil)
      (pss_cons (ps_if (pt_not (pt_val (pe_call GN hr2 (by rfl) DN.g DN.F.kp DN.b .nil pass0 (pa_cons (pv 1) pa_nil)))) (pss_one ps_never) pss_nil)
      (pss_one (ps_ret (pe_call GV hr1 (by rfl) DV.g DV.F.kp DV.b .nil pass0 (pa_cons (pv 0) (pa_cons (pv 1) pa_nil)))))), ?_⟩
    refine ⟨_, rfl, a, l, rfl, hs, hpm, hz, hl, fun H1 s1 => ⟨_, rfl, ?_⟩⟩
    refine iteF ?_
    refine ⟨_, rfl, x, rfl, hx, _, rfl, ?_⟩
    refine iteF ?_
    exact ⟨_, rfl, _, rfl, a, l, x, rfl, Same.seqT s1 hs, hx, q _ s1⟩
theorem ok_by {f fS fN fB fW : Addr} {fd fdS fdN fdB fdW : FuncData} (D : Dfn K mg "by_roots" sby_roots pby_roots f fd) (B : Bi mg) (T : TP mg) (DS : Dfn K mg "is_numbers" sis_numbers pis_numbers fS fdS) (DN : Dfn K mg "is_number" sis_number pis_number fN fdN) (DB : Dfn K mg "is_between" sis_between pis_between fB fdB)
    (DW : Dfn K mg "poly_with" spoly_with ppoly_with fW fdW) : FnOk P w K mg base CX0 4 f fd pby_roots (spWith K) := by
  have GS : FnOk P w K mg base CX0 3 fS fdS pis_numbers (spNms K) := ok_nms DS B T DN DB
  have GW : FnOk P w K mg base CX0 1 fW fdW ppoly_with (spWith K) := ok_with DW B T
  have nd := scby_roots.nd
  obtain ⟨tm, hmr⟩ := T.mr
  refine D.F.ok scby_roots (fun vs H Q E h => ?_) (fun cdv A outer s H vs Q E hr h => ?_)
  · obtain ⟨a, l, rfl, _⟩ := h
    rfl
  · obtain ⟨a, l, rfl, hs, hpm, hl, q⟩ := h
    have hr1 : Room 1 _ := hr.mono (by decide)
    refine ⟨_, pss_cons (ps_if (pt_not (pt_val (pe_call GS hr (by rfl) DS.g DS.F.kp DS.b .nil pass0 (pa_cons (pv 0) (pa_cons (pe_glob (v := .int 60) rfl hmr ⟨_, rfl⟩) pa_nil))))) (pss_one ps_never) pss_nil)
      (pss_one (ps_ret (pe_call GW hr1 (by rfl) DW.g DW.F.kp DW.b .nil pass0 (pa_cons (pv 0) pa_nil)))), ?_⟩
    refine ⟨_, rfl, a, l, 60, rfl, hs, hpm, hl, by decide, fun H1 s1 => ⟨_, rfl, ?_⟩⟩
    refine iteF ?_
    exact ⟨_, rfl, a, l, rfl, Same.seqT s1 hs, hpm, hl, fun p H2 s2 np hp => q p H2 (s1.trans s2) (s1.free np) hp⟩
theorem ok_com {f fP fS fN fB fI fC fT fD fM fG : Addr} {fd fdP fdS fdN fdB fdI fdC fdT fdD fdM fdG : FuncData} (D : Dfn K mg "common" scommon pcommon f fd) (B : Bi mg) (T : TP mg) (DP : Dfn K mg "is_poly" sis_poly pis_poly fP fdP) (DS : Dfn K mg "is_numbers" sis_numbers pis_numbers fS fdS) (DN : Dfn K mg "is_number" sis_number pis_number fN fdN) (DB : Dfn K mg "is_between" sis_between pis_between fB fdB)
    (DI : Dfn K mg "inverse" sinverse pinverse fI fdI) (DC : Dfn K mg "poly_scaled" spoly_scaled ppoly_scaled fC fdC) (DT : Dfn K mg "trimmed" strimmed ptrimmed fT fdT) (DD : Dfn K mg "poly_divided" spoly_divided ppoly_divided fD fdD) (DM : Dfn K mg "monic" smonic pmonic fM fdM) (DG : Dfn K mg "divisor" sdivisor pdivisor fG fdG) :
    FnOk P w K mg base CX0 5 f fd pcommon (spGcd K) := by
  have GP : FnOk P w K mg base CX0 4 fP fdP pis_poly (spPol K) := ok_pol DP B T DS DN DB
  have GG : FnOk P w K mg base CX0 3 fG fdG pdivisor (spGcd K) := ok_gcd DG B T DI DC DT DD DM
  have nd := sccommon.nd
  refine D.F.ok sccommon (fun vs H Q E h => ?_) (fun cdv Ar outer s H vs Q E hr h => ?_)
  · obtain ⟨a, b, A, C, rfl, _⟩ := h
    rfl
  · obtain ⟨a, b, A, C, rfl, ha, hb, hA, hC, zA, zC, la, lb, q⟩ := h
    have hr3 : Room 3 _ := hr.mono (by decide)
    refine ⟨_, pss_cons (ps_if (PW.pt (pw_or (pt_not (pt_val (pe_call GP hr (by rfl) DP.g DP.F.kp DP.b .nil pass0 (pa_cons (pv 0) pa_nil)))) (pw_or1 (pt_not (pt_val (pe_call GP hr (by rfl) DP.g DP.F.kp DP.b .nil pass0 (pa_cons (pv 1) pa_nil))))))) (pss_one ps_never) pss_nil)
      (pss_one (ps_ret (pe_call GG hr3 (by rfl) DG.g DG.F.kp DG.b .nil pass0 (pa_cons (pv 0) (pa_cons (pv 1) pa_nil))))), ?_⟩
    refine ⟨_, rfl, a, A, rfl, ha, hA, zA, la, fun H1 s1 => ⟨_, rfl, ?_⟩⟩
    refine iteF ?_
    refine ⟨_, rfl, b, C, rfl, Same.seqT s1 hb, hC, zC, lb, fun H2 s2 => ⟨_, rfl, ?_⟩⟩
    refine iteF ?_
    have s12 := s1.trans s2
    exact ⟨_, rfl, _, rfl, a, b, A, C, rfl, Same.seqT s12 ha, Same.seqT s12 hb, hA, hC, zA, zC, la, lb, fun G M p H3 h1 h2 s3 hp => q G M p H3 h1 h2 (s12.trans s3) hp⟩
end
end K06
namespace K06
open PySem L2 Pg RZ
/-! ### the law's own reckoning -/
abbrev s_law_prime : Stmt := top 24
abbrev n_law_prime : List Str := []
abbrev p_law_prime : List Str := []
theorem sc_law_prime : FnScope n_law_prime p_law_prime (defScope s_law_prime) := ⟨rfl, rfl, rfl, by decide +kernel, rfl, by decide +kernel, by decide +kernel⟩
def spPr : Sp := fun vs H Q _ => vs = [] ∧ Q (.int 2305843009213693951) H
abbrev s_law_from_roots : Stmt := top 28
abbrev n_law_from_roots : List Str := ["points", "found", "root", "k"]
abbrev p_law_from_roots : List Str := ["points"]
theorem sc_law_from_roots : FnScope n_law_from_roots p_law_from_roots (defScope s_law_from_roots) := ⟨rfl, rfl, rfl, by decide +kernel, rfl, by decide +kernel, by decide +kernel⟩
def spFr (K : PySem.W.Frag) : Sp := fun vs H Q _ => ∃ (a : Addr) (rs : List Nat), vs = [.ref a] ∧ SqL K H a (bV rs) ∧ Pm rs ∧ rs.length ≤ 60 ∧ ∀ (p : Addr) (H' : Hp), Same H H' → H p = none → H' p = some (.tup (bV (br rs))) → Q (.ref p) H'
abbrev s_law_at : Stmt := top 29
abbrev n_law_at : List Str := ["poly", "place", "found", "power", "number"]
abbrev p_law_at : List Str := ["poly", "place"]
theorem sc_law_at : FnScope n_law_at p_law_at (defScope s_law_at) := ⟨rfl, rfl, rfl, by decide +kernel, rfl, by decide +kernel, by decide +kernel⟩
def spAt (K : PySem.W.Frag) : Sp := fun vs H Q _ => ∃ (a : Addr) (l : List Nat) (x : Nat), vs = [.ref a, .int x] ∧ SqT K H a (bV l) ∧ Pm l ∧ x < 2305843009213693951 ∧ ∀ H', Same H H' → Q (.int (hor x l : Nat)) H'
abbrev s_law_power : Stmt := top 30
abbrev n_law_power : List Str := ["number", "many", "found", "bit"]
abbrev p_law_power : List Str := ["number", "many"]
theorem sc_law_power : FnScope n_law_power p_law_power (defScope s_law_power) := ⟨rfl, rfl, rfl, by decide +kernel, rfl, by decide +kernel, by decide +kernel⟩
def spPw : Sp := fun vs H Q _ => ∃ (n : Nat), vs = [.int n, .int 2305843009213693949] ∧ 0 < n ∧ n < 2305843009213693951 ∧ ∀ r : Nat, r < 2305843009213693951 → c (r : Nat) * c (n : Nat) = 1 → Q (.int r) H
def ev (x : F) : List Nat → F
  | [] => 0
  | n :: l => c (n : Nat) + x * ev x l
theorem gev {R : Type} [Po.Fd R] (a x n : R) : a * x + n = n + x * a := by grind
theorem hor_ev (x : Nat) : ∀ l, c (hor x l : Nat) = ev (c (x : Nat)) l
  | [] => rfl
  | n :: l => by
    show c (md ((hor x l : Nat) * (x : Int) + (n : Nat)) : Nat) = _
    rw [c_md, c_add, c_mul, hor_ev x l]
    exact gev _ _ _
def pw (x : F) : Nat → F
  | 0 => 1
  | n + 1 => pw x n * x
theorem pw_val (x : F) : ∀ n, (pw x n).val = x.val ^ n % Pr.P
  | 0 => rfl
  | n + 1 => by
    show (pw x n * x).val = _
    rw [Fin.val_mul, pw_val x n, Nat.pow_succ, Nat.mod_mul_mod]
theorem g7 {R : Type} [Po.Fd R] (a x : R) : a * (x * x) = (a * x) * x := by grind
theorem g8 {R : Type} [Po.Fd R] (a b x : R) : (a * b) * x = (a * x) * b := by grind
theorem pw_two (x : F) : ∀ n, pw (x * x) n = pw x (2 * n)
  | 0 => rfl
  | n + 1 => by
    show pw (x * x) n * (x * x) = pw x (2 * n) * x * x
    rw [pw_two x n]
    exact g7 _ _
theorem pw_inv {n : Nat} (h0 : 0 < n) (h : n < 2305843009213693951) : pw (c (n : Nat)) 2305843009213693949 * c (n : Nat) = 1 := by
  have e : pw (c (n : Nat)) 2305843009213693949 * c (n : Nat) = pw (c (n : Nat)) 2305843009213693950 := rfl
  rw [e]
  refine Fin.ext ?_
  rw [pw_val]
  have hv : (c (n : Nat)).val = n := md_id h
  rw [hv]
  exact Pr.fermat (x := n) (by show n % 2305843009213693951 ≠ 0; omega)
theorem fz0 {R : Type} [Po.Fd R] (a : R) : 0 + 1 * a = a := by grind
theorem fz (a : F) : c 0 + c 1 * a = a := by
  rw [c_zero, c_one]
  exact fz0 _
theorem fo (a : F) : c 1 * a = a := by
  rw [c_one]
  exact Lean.Grind.Semiring.one_mul _
theorem fm (a b : F) : a * pw b 0 = a := Lean.Grind.Semiring.mul_one _
theorem g9 {R : Type} [Po.Fd R] (a b : R) : a = a + b * 0 := by grind
theorem g10 {R : Type} [Po.Fd R] (a x b : R) : (a * x) * b = a * (b * x) := by grind
def rLenQ (K : PySem.W.Frag) : List V → Hp → VK → Prop := fun xs H Q => ∃ p ys, xs = [V.ref p] ∧ (SqL K H p ys ∨ SqT K H p ys) ∧ Q (V.int (ys.length : Nat)) H
theorem f1 {R : Type} [Po.Fd R] (p n x q e : R) : (p + n * q) + (q * x) * e = p + q * (n + x * e) := by grind
section
variable {P : Program} {w : World} {K : PySem.W.Frag} {mg : Str → Option Value} {base : Heap}
theorem ok_pr {f : Addr} {fd : FuncData} (D : Dfn K mg "_law_prime" s_law_prime p_law_prime f fd) : FnOk P w K mg base CX0 1 f fd p_law_prime spPr := by
  have nd := sc_law_prime.nd
  refine D.F.ok sc_law_prime (fun vs H Q E h => ?_) (fun cdv A outer s H vs Q E hr h => ?_)
  · obtain ⟨rfl, _⟩ := h
    rfl
  · obtain ⟨rfl, q⟩ := h
    exact ⟨_, pss_one (ps_ret pe_int), q⟩
theorem ok_at {f fP : Addr} {fd fdP : FuncData} (D : Dfn K mg "_law_at" s_law_at p_law_at f fd) (B : Bi mg) (DP : Dfn K mg "_law_prime" s_law_prime p_law_prime fP fdP) : FnOk P w K mg base CX0 2 f fd p_law_at (spAt K) := by
  have GP : FnOk P w K mg base CX0 1 fP fdP p_law_prime spPr := ok_pr DP
  have nd := sc_law_at.nd
  refine D.F.ok sc_law_at (fun vs H Q E h => ?_) (fun cdv A outer s H vs Q E hr h => ?_)
  · obtain ⟨a, l, x, rfl, _⟩ := h
    rfl
  · obtain ⟨a, l, x, rfl, hs, hpm, hx, q⟩ := h
    refine ⟨_, pss_cons (ps_asg (g := gTup K 2 (gCons (gName 2) (gCons (gName 3) gNil))) (pe_tup (pa_cons pe_int (pa_cons pe_int pa_nil))) (by exact pg_tup rfl (pgs_cons (pg_name (i := 2) nd rfl (.inl rfl)) (pgs_cons (pg_name (i := 3) nd rfl (.inl rfl)) pgs_nil))))
      (pss_cons (ps_for PassesOwn.never rfl (pi_tup (pv 0)) (pg_name (i := 4) nd rfl (.inl rfl))
        (pss_one (ps_par (i := 2) (j := 3) (by rfl) nd rfl rfl (by decide) rfl rfl
          (pa_cons (pe_op op_mod (pe_callTy call_int1 (by rfl) B.int (by decide +kernel) (pa_cons (pe_op op_add (pv 2) (pe_op op_mulW (pv 4) (pv 3))) pa_nil)) (pe_call0 GP hr (by rfl) DP.g DP.F.kp DP.b .nil pass0))
          (pa_cons (pe_op op_mod (pe_callTy call_int1 (by rfl) B.int (by decide +kernel) (pa_cons (pe_op op_mulW (pv 3) (pv 1)) pa_nil)) (pe_call0 GP hr (by rfl) DP.g DP.F.kp DP.b .nil pass0)) pa_nil)) (by rfl))))
      (pss_one (ps_ret (pv 2)))), ?_⟩
    refine ⟨by decide, fun tp0 ntp => ⟨tp0, _, rfl, SqT.of upd_same, rfl, _, _, rfl, _, _, rfl, rfl, ?_⟩⟩
    have st : Same H (upd H tp0 (.tup [.int 0, .int 1])) := Same.new ntp
    generalize upd H tp0 (.tup [.int 0, .int 1]) = H0 at st
    have hs0 := Same.seqT st hs
    refine ⟨_, rfl, a, rfl, ⟨_, hs0⟩, ?_⟩
    refine for_tup (K := K) (a := a) (xs := bV l) (fun i σ H1 => H1 = H0 ∧ ∃ (u v : Nat) (v4 : Option V), σ = [some (.ref a), some (.int x), some (.int u), some (.int v), v4] ∧ u < 2305843009213693951 ∧ v < 2305843009213693951 ∧ c (u : Nat) + c (v : Nat) * ev (c (x : Nat)) (l.drop i) = ev (c (x : Nat)) l)
      ⟨rfl, 0, 1, none, rfl, by decide, by decide, by rw [List.drop_zero]; exact fz _⟩ (fun i σ H1 hi h => by rw [h.1]; exact hs0) ?_ ?_
    · rintro i y σ H1 hy ⟨rfl, u, v, v4, rfl, hu, hv, he⟩
      obtain ⟨n, hn, rfl⟩ := bV_get hy
      have hn2 := hpm n (List.mem_of_getElem? hn)
      have hi : i < l.length := (List.getElem?_eq_some_iff.mp hn).1
      refine ⟨_, rfl, _, rfl, _, rfl, _, _, rfl, rfl, wide_mul (a := 62) (b := 62) (by omega) (by omega) (by decide) (by decide) (by decide), _, _, rfl, rfl, .inl ⟨_, rfl, rfl, _, _, rfl, rfl, (by show (0 : Int) < 2305843009213693951; decide), ?_⟩⟩
      refine ⟨_, rfl, _, rfl, _, _, rfl, rfl, wide_mul (a := 62) (b := 62) (by omega) (by omega) (by decide) (by decide) (by decide), .inl ⟨_, rfl, rfl, _, _, rfl, rfl, (by show (0 : Int) < 2305843009213693951; decide), _, _, rfl, ?_⟩⟩
      refine ⟨rfl, md ((u : Nat) + (n : Nat) * (v : Int)), md ((v : Nat) * (x : Int)), some (.int n), ?_, md_lt _, md_lt _, ?_⟩
      · show [_, _, some (V.int (((u : Int) + (n : Int) * (v : Int)) % 2305843009213693951)), some (V.int ((v : Int) * (x : Int) % 2305843009213693951)), _] = _
        rw [← md_int, ← md_int]
      · rw [c_md, c_md, c_add, c_mul, c_mul, ← he]
        have hd : l.drop i = n :: l.drop (i + 1) := by
          rw [List.drop_eq_getElem_cons hi]
          congr 1
          exact (List.getElem?_eq_some_iff.mp hn).2
        rw [hd]
        exact f1 _ _ _ _ _
    · rintro σ H1 ⟨rfl, u, v, v4, rfl, hu, hv, he⟩
      rw [bV_len, List.drop_length] at he
      have hh : u = hor x l := by
        refine c_inj hu (hor_lt x l) ?_
        rw [hor_ev, ← he]
        exact g9 _ _
      subst hh
      exact ⟨_, rfl, q _ st⟩
theorem ok_pw {f fP : Addr} {fd fdP : FuncData} (D : Dfn K mg "_law_power" s_law_power p_law_power f fd) (B : Bi mg) (DP : Dfn K mg "_law_prime" s_law_prime p_law_prime fP fdP) : FnOk P w K mg base CX0 2 f fd p_law_power spPw := by
  have GP : FnOk P w K mg base CX0 1 fP fdP p_law_prime spPr := ok_pr DP
  have nd := sc_law_power.nd
  refine D.F.ok sc_law_power (fun vs H Q E h => ?_) (fun cdv A outer s H vs Q E hr h => ?_)
  · obtain ⟨n, rfl, _⟩ := h
    rfl
  · obtain ⟨n, rfl, h0, h1, q⟩ := h
    refine ⟨_, pss_cons (ps_set (i := 2) nd rfl (.inl rfl) pe_int)
      (pss_cons (ps_for PassesOwn.never rfl (pi_range1 (by rfl) B.range (pa_cons pe_int pa_nil)) (pg_name (i := 3) nd rfl (.inl rfl))
        (pss_cons (ps_if (pt_cmpR op_eq (pe_op op_and (pe_op op_shr (pv 1) (pv 3)) pe_int) pe_int (nomark _))
          (pss_one (ps_set (i := 2) nd rfl (.inl rfl) (pe_op op_mod (pe_callTy call_int1 (by rfl) B.int (by decide +kernel) (pa_cons (pe_op op_mulW (pv 2) (pv 0)) pa_nil)) (pe_call0 GP hr (by rfl) DP.g DP.F.kp DP.b .nil pass0)))) pss_nil)
        (pss_one (ps_set (i := 0) nd rfl (.inl rfl) (pe_op op_mod (pe_callTy call_int1 (by rfl) B.int (by decide +kernel) (pa_cons (pe_op op_mulW (pv 0) (pv 0)) pa_nil)) (pe_call0 GP hr (by rfl) DP.g DP.F.kp DP.b .nil pass0))))))
      (pss_one (ps_ret (pv 2)))), ?_⟩
    refine ⟨64, rfl, by decide, by decide, ?_⟩
    refine for_range (n := 64) (fun i σ H1 => H1 = H ∧ ∃ (m u : Nat) (v3 : Option V), σ = [some (.int m), some (.int 2305843009213693949), some (.int u), v3] ∧ m < 2305843009213693951 ∧ u < 2305843009213693951 ∧ c (u : Nat) * pw (c (m : Nat)) (2305843009213693949 >>> i) = pw (c (n : Nat)) 2305843009213693949)
      ⟨rfl, n, 1, none, rfl, h1, by decide, fo _⟩ ?_ ?_
    · rintro i σ H1 hi ⟨rfl, m, u, v3, rfl, hm, hu, he⟩
      have hsh : 2305843009213693949 >>> i = 2 * (2305843009213693949 >>> (i + 1)) + (2305843009213693949 >>> i) % 2 := by
        rw [Nat.shiftRight_succ]
        omega
      have hb : V.bl (decide (V.int (Builtin.bitAnd ((2305843009213693949 : Int) / 2 ^ ((0 : Int) + (i : Int)).toNat) 1) = V.int 1)) = V.bl (decide ((2305843009213693949 >>> i) &&& 1 = 1)) := by
        rw [show (0 : Int) + (i : Int) = (i : Int) by omega]
        exact bit_test 2305843009213693949 i
      rw [Nat.and_one_is_mod] at hb
      refine ⟨_, rfl, _, rfl, _, _, rfl, rfl, (by omega), _, _, rfl, rfl, rfl, _, hb, ?_⟩
      have e2 := pw_two (c (m : Nat)) (2305843009213693949 >>> (i + 1))
      generalize 2305843009213693949 >>> (i + 1) = k at hsh e2
      generalize 2305843009213693949 >>> i = z at hsh he
      by_cases ho : z % 2 = 1
      · rw [decide_eq_true ho]
        refine iteT ?_
        rw [ho] at hsh
        refine ⟨_, rfl, _, rfl, _, _, rfl, rfl, wide_mul (a := 62) (b := 62) (by omega) (by omega) (by decide) (by decide) (by decide), .inl ⟨_, rfl, rfl, _, _, rfl, rfl, (by show (0 : Int) < 2305843009213693951; decide), ?_⟩⟩
        refine ⟨_, rfl, _, rfl, _, _, rfl, rfl, wide_mul (a := 62) (b := 62) (by omega) (by omega) (by decide) (by decide) (by decide), .inl ⟨_, rfl, rfl, _, _, rfl, rfl, (by show (0 : Int) < 2305843009213693951; decide), ?_⟩⟩
        refine ⟨rfl, md ((m : Nat) * (m : Int)), md ((u : Nat) * (m : Int)), some (.int ((0 : Int) + (i : Int))), ?_, md_lt _, md_lt _, ?_⟩
        · rw [md_int, md_int]
          rfl
        · rw [c_md, c_md, c_mul, c_mul, e2, ← he, hsh]
          exact g10 _ _ _
      · rw [decide_eq_false ho]
        refine iteF ?_
        rw [show z % 2 = 0 by omega, Nat.add_zero] at hsh
        refine ⟨_, rfl, _, rfl, _, _, rfl, rfl, wide_mul (a := 62) (b := 62) (by omega) (by omega) (by decide) (by decide) (by decide), .inl ⟨_, rfl, rfl, _, _, rfl, rfl, (by show (0 : Int) < 2305843009213693951; decide), ?_⟩⟩
        refine ⟨rfl, md ((m : Nat) * (m : Int)), u, some (.int ((0 : Int) + (i : Int))), ?_, md_lt _, hu, ?_⟩
        · rw [md_int]
          rfl
        · rw [c_md, c_mul, e2, ← he, hsh]
    · rintro σ H1 ⟨rfl, m, u, v3, rfl, hm, hu, he⟩
      refine ⟨_, rfl, q u hu ?_⟩
      have h64 : 2305843009213693949 >>> 64 = 0 := by decide
      rw [h64] at he
      rw [← pw_inv h0 h1, ← he]
      congr 1
      exact (fm _ _).symm
theorem ok_fr {f fP : Addr} {fd fdP : FuncData} (D : Dfn K mg "_law_from_roots" s_law_from_roots p_law_from_roots f fd) (B : Bi mg) (DP : Dfn K mg "_law_prime" s_law_prime p_law_prime fP fdP) : FnOk P w K mg base CX0 2 f fd p_law_from_roots (spFr K) := by
  have GP : FnOk P w K mg base CX0 1 fP fdP p_law_prime spPr := ok_pr DP
  have nd := sc_law_from_roots.nd
  refine D.F.ok sc_law_from_roots (fun vs H Q E h => ?_) (fun cdv A outer s H vs Q E hr h => ?_)
  · obtain ⟨a, rs, rfl, _⟩ := h
    rfl
  · obtain ⟨a, rs, rfl, hs, hpm, hl, q⟩ := h
    refine ⟨_, pss_cons (ps_set (i := 1) nd rfl (.inr rfl) (pe_lst (pa_cons pe_int pa_nil)))
      (pss_cons (ps_for PassesOwn.never rfl (pi_list (pv 0)) (pg_name (i := 2) nd rfl (.inr rfl))
        (pss_one (ps_set (i := 1) nd rfl (.inr rfl) (pe_lc (own := [("k", 3)]) (g := gName 3) (tt := tYes) rfl nd
          (pi_range1 (by rfl) B.range (pa_cons (pe_op op_add (pe_callB call_len_seq (by rfl) B.len PySem.boot_len (pa_cons (pv 1) pa_nil)) pe_int) pa_nil))
          (blkOk_by (N := n_law_from_roots) (sc := defScope s_law_from_roots) (by decide +kernel)) (fun _ _ _ _ _ => pg_name (i := 3) nd rfl (.inl rfl)) (fun _ _ _ _ _ => pts_nil)
          (fun _ _ _ _ _ => pe_op op_mod (pe_callTy call_int1 (by rfl) B.int (by decide +kernel) (pa_cons (pe_op op_sub
              (pe_ifExp (pt_cmpR op_gt (pv 3) pe_int (nomark _)) (pe_ix (r := rIxL K) ix_list (pv 1) (pe_op op_sub (pv 3) pe_int) (fun _ _ => rfl)) pe_int)
              (pe_op op_mulW (pv 2) (pe_ifExp (pt_cmpR op_lt (pv 3) (pe_callB (r := rLenQ K) call_len_seq (by rfl) B.len PySem.boot_len (pa_cons (pv 1) pa_nil)) (nomark _)) (pe_ix (r := rIxL K) ix_list (pv 1) (pv 3) (fun _ _ => rfl)) pe_int))) pa_nil))
            (pe_call0 GP hr (by rfl) DP.g DP.F.kp DP.b .nil pass0))))))
      (pss_one (ps_ret (pe_callTy call_tuple_of (by rfl) B.tuple (by decide +kernel) (pa_cons (pv 1) pa_nil))))), ?_⟩
    refine ⟨by decide, fun o no => ?_⟩
    have s1 : Same H (upd H o (.lst [.int 1])) := Same.new no
    refine ⟨_, rfl, a, rfl, ⟨_, s1.seq hs⟩, ?_⟩
    refine for_list (K := K) (a := a) (xs := bV rs) (fun i σ H1 => ∃ (pl : Addr) (v2 v3 : Option V), σ = [some (.ref a), some (.ref pl), v2, v3] ∧ Same H H1 ∧ H pl = none ∧ H1 pl = some (.lst (bV (rp [1] (rs.take i))))) ⟨o, none, none, rfl, s1, no, upd_same⟩ ?_ ?_ ?_
    · rintro i σ H1 hi ⟨pl, v2, v3, rfl, s2, np, hpl⟩
      exact s2.seq hs
    · rintro i x σ H1 hx ⟨pl, v2, v3, rfl, s2, np, hpl⟩
      obtain ⟨r, hr1, rfl⟩ := bV_get hx
      have hi : i < rs.length := (List.getElem?_eq_some_iff.mp hr1).1
      have hrP := hpm r (List.mem_of_getElem? hr1)
      have hlm := rp_pm (rs.take i) [1] pm_one
      have hll : (rp [1] (rs.take i)).length ≤ 61 := by
        rw [rp_len, List.length_take]
        show 1 + _ ≤ 61
        omega
      rw [rp_more [1] hr1]
      generalize rp [1] (rs.take i) = l at hpl hlm hll
      refine ⟨_, rfl, pl, _, rfl, .inl (SqL.of hpl), _, _, rfl, rfl, l.length + 1, ?_, by omega, by omega, fun Dl hD => ?_⟩
      · rw [bV_len]
      refine lc_range (lo := 0) (n := l.length + 1) (fun j H4 => Same H1 H4 ∧ H4 Dl = some (.lst (bV ((mr r l).take j)))) ?_ ?_ ?_
      · exact ⟨Same.new hD, by rw [upd_same]; rfl⟩
      · rintro j H4 hj ⟨s4, hd4⟩
        have hpl4 := s4 _ _ hpl
        have hmj := mr_at r l j hj
        have hbd := hlm.at j
        refine ⟨rfl, ?_⟩
        refine yes ?_
        have fin : ∀ (x1 x2 : Int), x1 = ((if j = 0 then 0 else l.getD (j - 1) 0 : Nat) : Int) → x2 = ((l.getD j 0 : Nat) : Int) → ∃ acc, H4 Dl = some (.lst acc) ∧ acc.length < sizeLine ∧ (Same H1 (upd H4 Dl (.lst (acc ++ [V.int ((x1 - (r : Int) * x2) % 2305843009213693951)]))) ∧ (upd H4 Dl (.lst (acc ++ [V.int ((x1 - (r : Int) * x2) % 2305843009213693951)]))) Dl = some (.lst (bV ((mr r l).take (j + 1))))) := by
          rintro x1 x2 rfl rfl
          refine ⟨_, hd4, ?_, fun b u hb => ?_, ?_⟩
          · rw [bV_len, List.length_take, sizeLine_eq]
            omega
          · rw [upd_ne (ne_of_none hb hD)]
            exact s4 _ _ hb
          · rw [upd_same, take_more hmj, ← bV_append, ← md_int]
            rfl
        refine ⟨_, rfl, _, _, rfl, rfl, _, rfl, ?_⟩
        by_cases hj0 : j = 0
        · rw [decide_eq_false (show ¬ (0 : Int) < 0 + (j : Int) by omega)]
          refine iteF ?_
          refine ⟨_, rfl, _, rfl, _, rfl, pl, _, rfl, .inl (SqL.of hpl4), _, _, rfl, rfl, _, rfl, ?_⟩
          rw [bV_len]
          by_cases hjl : j < l.length
          · rw [decide_eq_true (show (0 : Int) + (j : Int) < (l.length : Int) by omega)]
            refine iteT ?_
            refine ⟨_, rfl, _, rfl, pl, _, _, _, rfl, rfl, SqL.of hpl4, at_of (j := j) (by omega) (bV_at (pg_at hjl)), _, _, rfl, rfl, wide_mul (a := 62) (b := 62) (by omega) (by omega) (by decide) (by decide) (by decide), _, _, rfl, rfl, .inl ⟨_, rfl, rfl, _, _, rfl, rfl, (by show (0 : Int) < 2305843009213693951; decide), ?_⟩⟩
            exact fin 0 _ (by rw [if_pos hj0]; rfl) rfl
          · rw [decide_eq_false (show ¬ (0 : Int) + (j : Int) < (l.length : Int) by omega)]
            refine iteF ?_
            refine ⟨_, _, rfl, rfl, wide_mul (a := 62) (b := 62) (by omega) (by omega) (by decide) (by decide) (by decide), _, _, rfl, rfl, .inl ⟨_, rfl, rfl, _, _, rfl, rfl, (by show (0 : Int) < 2305843009213693951; decide), ?_⟩⟩
            exact fin 0 0 (by rw [if_pos hj0]; rfl) (by rw [List.getD_eq_getElem?_getD, List.getElem?_eq_none (by omega)]; rfl)
        · rw [decide_eq_true (show (0 : Int) < 0 + (j : Int) by omega)]
          refine iteT ?_
          refine ⟨_, rfl, _, rfl, _, _, rfl, rfl, pl, _, _, _, rfl, rfl, SqL.of hpl4, at_of (j := j - 1) (by omega) (bV_at (pg_at (by omega))), ?_⟩
          refine ⟨_, rfl, _, rfl, _, rfl, pl, _, rfl, .inl (SqL.of hpl4), _, _, rfl, rfl, _, rfl, ?_⟩
          rw [bV_len]
          by_cases hjl : j < l.length
          · rw [decide_eq_true (show (0 : Int) + (j : Int) < (l.length : Int) by omega)]
            refine iteT ?_
            refine ⟨_, rfl, _, rfl, pl, _, _, _, rfl, rfl, SqL.of hpl4, at_of (j := j) (by omega) (bV_at (pg_at hjl)), _, _, rfl, rfl, wide_mul (a := 62) (b := 62) (by omega) (by omega) (by decide) (by decide) (by decide), _, _, rfl, rfl, .inl ⟨_, rfl, rfl, _, _, rfl, rfl, (by show (0 : Int) < 2305843009213693951; decide), ?_⟩⟩
            exact fin _ _ (by rw [if_neg hj0]) rfl
          · rw [decide_eq_false (show ¬ (0 : Int) + (j : Int) < (l.length : Int) by omega)]
            refine iteF ?_
            refine ⟨_, _, rfl, rfl, wide_mul (a := 62) (b := 62) (by omega) (by omega) (by decide) (by decide) (by decide), _, _, rfl, rfl, .inl ⟨_, rfl, rfl, _, _, rfl, rfl, (by show (0 : Int) < 2305843009213693951; decide), ?_⟩⟩
            exact fin _ 0 (by rw [if_neg hj0]) (by rw [List.getD_eq_getElem?_getD, List.getElem?_eq_none (by omega)]; rfl)
      · rintro H4 ⟨s4, hd4⟩
        rw [List.take_of_length_le (by rw [mr_len]; exact Nat.le_refl _)] at hd4
        exact ⟨Dl, some (.int r), v3, rfl, s2.trans s4, s2.free hD, hd4⟩
    · rintro σ H1 ⟨pl, v2, v3, rfl, s2, np, hpl⟩
      rw [bV_len, List.take_length] at hpl
      refine ⟨_, rfl, pl, _, rfl, .inl ⟨SqL.of hpl, fun p npp => ?_⟩⟩
      exact q p _ (s2.trans (Same.new npp)) (s2.free npp) upd_same
end
end K06
namespace K06
open PySem L2 Pg RZ
/-! ### what the law compares -/
theorem gz00 {R : Type} [Po.Fd R] : (0 : R) + 0 = 0 := by grind
theorem gz0 : (0 : F) + 0 = 0 := gz00
theorem I_nil {f : Po.Q F} (h : Po.I (Po.One Po.nil) f) : ∀ k, f k = 0 := by
  induction h with
  | base e => intro k; rw [e]; rfl
  | zero => intro k; rfl
  | add _ _ a b => intro k; show _ + _ = _; rw [a, b]; exact gz0
  | smul x _ a => intro k; show x * _ = _; rw [a]; exact Lean.Grind.Semiring.mul_zero _
  | sh _ a => intro k; cases k with
    | zero => rfl
    | succ k => exact a k
theorem cf_nil : cf [] = Po.nil := by
  funext k
  exact cf_far (Nat.zero_le _)
theorem last_ne {G : List Nat} (hp : Pm G) (hz : NoZ G) (h : G ≠ []) : cf G (G.length - 1) ≠ 0 := c_ne (hp.at _) (hz.elim (fun e => absurd e h) id)
theorem zero_of {G : List Nat} (hp : Pm G) (hz : NoZ G) (h : ∀ k, cf G k = 0) : G = [] := Classical.byContradiction fun hn => last_ne hp hz hn (h _)
theorem scl_pm (r : Nat) (l : List Nat) : Pm (scl r l) := fun n hn => by
  obtain ⟨m, _, rfl⟩ := List.mem_map.mp hn
  exact md_lt _
theorem scl_len (r : Nat) (l : List Nat) : (scl r l).length = l.length := List.length_map _
theorem cf_scl (r : Nat) (l : List Nat) : cf (scl r l) = Po.smul (c (r : Nat)) (cf l) := by
  funext k
  show c (((scl r l).getD k 0 : Nat) : Int) = c (r : Nat) * c ((l.getD k 0 : Nat) : Int)
  by_cases h : k < l.length
  · have e : (scl r l)[k]? = some (md ((l.getD k 0 : Nat) * (r : Int))) := by
      unfold scl
      rw [List.getElem?_map, pg_at h]
      rfl
    rw [List.getD_eq_getElem?_getD, e, Option.getD_some, c_md, c_mul]
    exact Lean.Grind.CommSemiring.mul_comm _ _
  · rw [List.getD_eq_getElem?_getD, List.getElem?_eq_none (by rw [scl_len]; omega), List.getD_eq_getElem?_getD, List.getElem?_eq_none (by omega)]
    exact (Lean.Grind.Semiring.mul_zero _).symm
theorem scl_monic {r : Nat} {G : List Nat} (hG : G ≠ []) (h : c (r : Nat) * c (G.getD (G.length - 1) 0 : Nat) = 1) : Po.Monic (G.length - 1) (cf (scl r G)) := by
  have hl : 0 < G.length := List.length_pos_iff.mpr hG
  rw [cf_scl]
  refine ⟨h, fun k hk => ?_⟩
  show c (r : Nat) * cf G k = 0
  rw [cf_far (by omega)]
  exact Lean.Grind.Semiring.mul_zero _
theorem unit_of {r : Nat} {x : F} (h : c (r : Nat) * x = 1) : c (r : Nat) ≠ 0 := fun e => by
  rw [e] at h
  have h2 : (0 : F) * x = 0 := Lean.Grind.Semiring.zero_mul _
  exact Po.Fd.ne (h.symm.trans h2)
/-- two monic lists, each in the other's ideal -/
theorem mono_eq {X Y : List Nat} {n m : Nat} (pX : Pm X) (pY : Pm Y) (lX : X.length = n + 1) (lY : Y.length = m + 1) (mX : Po.Monic n (cf X)) (mY : Po.Monic m (cf Y)) (h1 : Po.I (Po.One (cf Y)) (cf X)) (h2 : Po.I (Po.One (cf X)) (cf Y)) : X = Y := by
  have e := Po.same mX mY h1 h2
  have hnm : n = m := by
    rcases Nat.lt_trichotomy n m with h | h | h
    · have a := mX.2 m h
      rw [e, mY.1] at a
      exact absurd a Po.Fd.ne
    · exact h
    · have a := mY.2 n h
      rw [← e, mX.1] at a
      exact absurd a Po.Fd.ne
  exact cf_eq pX pY (by omega) e
theorem of_smul {A : Po.Q F} {r : F} (hr : r ≠ 0) : Po.I (Po.One (Po.smul r A)) A := Po.I.cancel hr (.base rfl)
/-- a list of the ideals of A, made monic, is the monic one of A -/
theorem mon_eq {A G M : List Nat} {l : Nat} (pA : Pm A) (hA : A ≠ []) (hl : c (l : Nat) * c (A.getD (A.length - 1) 0 : Nat) = 1) (U : GcdP A [] G) (hM : Mon G M) : M = scl l A := by
  have i1 : Po.I (Po.One (cf A)) (cf G) := U.i.of fun f e => by
    rcases e with e | e
    · rw [e]; exact .base rfl
    · exact Po.I.nil fun k => by rw [e]; exact cf_far (Nat.zero_le _)
  rcases hM with ⟨rfl, rfl⟩ | ⟨hG, r, hr, rfl⟩
  · exfalso
    have h0 := I_nil (by rw [← cf_nil]; exact U.a)
    have hlA : cf A (A.length - 1) ≠ 0 := fun e => by
      have e2 : c (A.getD (A.length - 1) 0 : Nat) = 0 := e
      rw [e2] at hl
      have h2 : c (l : Nat) * (0 : F) = 0 := Lean.Grind.Semiring.mul_zero _
      exact Po.Fd.ne (hl.symm.trans h2)
    exact hlA (h0 _)
  · have lG : 0 < G.length := List.length_pos_iff.mpr hG
    have lA : 0 < A.length := List.length_pos_iff.mpr hA
    refine mono_eq (scl_pm r G) (scl_pm l A) (n := G.length - 1) (m := A.length - 1) (by rw [scl_len]; omega) (by rw [scl_len]; omega) (scl_monic hG hr) (scl_monic hA hl) ?_ ?_
    · rw [cf_scl, cf_scl]
      exact Po.I.smul _ (i1.of fun f e => by rw [e]; exact of_smul (unit_of hl))
    · rw [cf_scl, cf_scl]
      exact Po.I.smul _ (U.a.of fun f e => by rw [e]; exact of_smul (unit_of hr))
theorem gcd_nil {G M : List Nat} (U : GcdP [] [] G) (hM : Mon G M) : M = [] := by
  have h0 : ∀ k, cf G k = 0 := I_nil (U.i.of fun f e => by
    rcases e with e | e
    · exact Po.I.nil fun k => by rw [e]; exact cf_far (Nat.zero_le _)
    · exact Po.I.nil fun k => by rw [e]; exact cf_far (Nat.zero_le _))
  have hG := zero_of U.pm U.nz h0
  rcases hM with ⟨_, h⟩ | ⟨h, _⟩
  · exact h
  · exact absurd hG h
def mc (l : List Nat) : List F := l.map fun r => c (r : Nat)
theorem br_perm {l m : List Nat} (h : l.Perm m) : br l = br m := by
  refine cf_eq (br_pm l) (br_pm m) (by rw [br_len, br_len, h.length_eq]) ?_
  rw [cf_br, cf_br]
  exact Po.Ls_perm (h.map _) _
/-- the common divisor of two products -/
theorem gcd_br {one two both as bs G M : List Nat} (h1 : one.Perm (both ++ as)) (h2 : two.Perm (both ++ bs)) (hp1 : Pm one) (hp2 : Pm two) (hd : ∀ a, a ∈ as → a ∉ bs) (U : GcdP (br one) (br two) G) (hM : Mon G M) : M = br both := by
  have e1 : (mc one).Perm (mc both ++ mc as) := by
    have := h1.map fun r => c (r : Nat)
    rw [List.map_append] at this
    exact this
  have e2 : (mc two).Perm (mc both ++ mc bs) := by
    have := h2.map fun r => c (r : Nat)
    rw [List.map_append] at this
    exact this
  have hdis : ∀ a, a ∈ mc as → ∀ b, b ∈ mc bs → a ≠ b := by
    rintro a ha b hb rfl
    obtain ⟨x, hx, ex⟩ := List.mem_map.mp ha
    obtain ⟨y, hy, ey⟩ := List.mem_map.mp hb
    have hxP := hp1 x (h1.mem_iff.mpr (List.mem_append_right _ hx))
    have hyP := hp2 y (h2.mem_iff.mpr (List.mem_append_right _ hy))
    have : x = y := c_inj hxP hyP (ex.trans ey.symm)
    subst this
    exact hd x hx hy
  have hT : Po.I (Po.Two (cf (br one)) (cf (br two))) (cf (br both)) := by
    rw [cf_br, cf_br, cf_br]
    exact Po.common_in e1 e2 hdis
  have hA : Po.I (Po.One (cf (br both))) (cf (br one)) := by
    rw [cf_br, cf_br]
    exact Po.common_of e1
  have hB : Po.I (Po.One (cf (br both))) (cf (br two)) := by
    rw [cf_br, cf_br]
    exact Po.common_of e2
  have hGT : Po.I (Po.One (cf (br both))) (cf G) := U.i.of fun f e => by
    rcases e with e | e
    · rw [e]; exact hA
    · rw [e]; exact hB
  have hTG : Po.I (Po.One (cf G)) (cf (br both)) := hT.of fun f e => by
    rcases e with e | e
    · rw [e]; exact U.a
    · rw [e]; exact U.b
  rcases hM with ⟨rfl, rfl⟩ | ⟨hG, r, hr, rfl⟩
  · exfalso
    have h0 := I_nil (by rw [← cf_nil]; exact hTG)
    have := (br_monic both).1
    rw [h0] at this
    exact Po.Fd.ne this.symm
  · have lG : 0 < G.length := List.length_pos_iff.mpr hG
    refine mono_eq (scl_pm r G) (br_pm both) (n := G.length - 1) (m := both.length) (by rw [scl_len]; omega) (br_len both) (scl_monic hG hr) (br_monic both) ?_ ?_
    · rw [cf_scl]
      exact Po.I.smul _ hGT
    · rw [cf_scl]
      exact hTG.of fun f e => by rw [e]; exact of_smul (unit_of hr)
theorem br_noz (l : List Nat) : NoZ (br l) := .inr (by
  rw [br_len, Nat.add_sub_cancel, List.getD_eq_getElem?_getD, br_last]
  show 1 ≠ 0
  decide)
end K06
namespace K06
open PySem L2 Pg RZ
/-! ### texts of tuples of octets -/
/-- the reading makes, or finds, a tuple of these octets; what was tracked stands -/
def Gd (σ : St) (H : Hp) (te : TE) (l : List Nat) : Prop := ∀ H1, Same H H1 → ∀ Q : VK, (∀ (p : Addr) (H' : Hp), Same H1 H' → H' p = some (.tup (bV l)) → Q (.ref p) H') → te σ H1 Q
def Tus (H : Hp) : List Addr → List (List Nat) → Prop
  | [], [] => True
  | p :: ps, l :: ls => H p = some (.tup (bV l)) ∧ Tus H ps ls
  | _, _ => False
theorem Tus.same {H H' : Hp} (s : Same H H') : ∀ {ps : List Addr} {ls : List (List Nat)}, Tus H ps ls → Tus H' ps ls
  | [], [], _ => True.intro
  | _ :: _, _ :: _, h => ⟨s _ _ h.1, Tus.same s h.2⟩
theorem Tus.keep {r : Addr} {H H' : Hp} (s : Keep r H H') (n : ∀ xs, H r ≠ some (.tup xs)) : ∀ {ps : List Addr} {ls : List (List Nat)}, Tus H ps ls → Tus H' ps ls
  | [], [], _ => True.intro
  | _ :: _, _ :: _, h => ⟨s _ _ (fun e => n _ (e ▸ h.1)) h.1, Tus.keep s n h.2⟩
theorem Tus.get {H : Hp} : ∀ {ps : List Addr} {ls : List (List Nat)} {i : Nat} {p : Addr}, Tus H ps ls → ps[i]? = some p → ∃ l, ls[i]? = some l ∧ H p = some (.tup (bV l))
  | [], [], i, t, _, h => by simp at h
  | t' :: ts, c :: cs, 0, t, h, e => by
    have e' : t' = t := Option.some.inj e
    subst e'
    exact ⟨c, rfl, h.1⟩
  | _ :: ts, _ :: cs, i + 1, t, h, e => Tus.get (i := i) h.2 e
theorem Tus.len {H : Hp} : ∀ {ps : List Addr} {ls : List (List Nat)}, Tus H ps ls → ps.length = ls.length
  | [], [], _ => rfl
  | _ :: ts, _ :: cs, h => by rw [List.length_cons, List.length_cons, Tus.len h.2]
theorem Tus.append {H : Hp} : ∀ {ps : List Addr} {ls : List (List Nat)} {qs : List Addr} {ms : List (List Nat)}, Tus H ps ls → Tus H qs ms → Tus H (ps ++ qs) (ls ++ ms)
  | [], [], _, _, _, h => h
  | _ :: _, _ :: _, _, _, h, g => ⟨h.1, Tus.append h.2 g⟩
def GdL (σ : St) (H : Hp) (ta : TA) (ls : List (List Nat)) : Prop := ∀ H1, Same H H1 → ∀ Q : List V → Hp → Prop, (∀ (ps : List Addr) (H' : Hp), Same H1 H' → Tus H' ps ls → Q (ps.map V.ref) H') → ta σ H1 Q
section
variable {σ : St} {H : Hp} {t1 t2 : TE} {l l1 l2 : List Nat} {K : PySem.W.Frag}
theorem gd_nil : Gd σ H (tTup tNil) [] := fun H1 s Q q => ⟨Nat.zero_le _, fun p hp => q p _ (Same.new hp) upd_same⟩
theorem gd_one {a : Nat} : Gd σ H (tTup (tCons (tC (.int (a : Int))) tNil)) [a] := fun H1 s Q q => ⟨(by show 1 ≤ sizeLine; decide), fun p hp => q p _ (Same.new hp) upd_same⟩
theorem gd_two {a b : Nat} : Gd σ H (tTup (tCons (tC (.int (a : Int))) (tCons (tC (.int (b : Int))) tNil))) [a, b] := fun H1 s Q q => ⟨(by show 2 ≤ sizeLine; decide), fun p hp => q p _ (Same.new hp) upd_same⟩
theorem gd_rep {k : Nat} (h : Gd σ H t1 l) (h1 : l ≠ []) (h2 : 2 ≤ k) (h3 : k ≤ 1000) (h4 : l.length ≤ 1000) : Gd σ H (tOp (rRepT K) t1 (tC (.int (k : Int)))) (List.replicate k l).flatten := fun H1 s Q q => by
  refine h H1 s _ fun p H2 s2 hp => ?_
  refine ⟨p, _, bV l, rfl, rfl, .inl (.inl hp), ?_, by omega, by omega, by rw [bV_len]; exact h4, fun p2 np2 => ?_⟩
  · intro e
    have := congrArg List.length e
    rw [bV_len] at this
    exact h1 (List.eq_nil_of_length_eq_zero this)
  · refine q p2 _ (s2.trans (Same.new np2)) ?_
    rw [upd_same, Int.toNat_natCast]
    have e : (List.replicate k (bV l)).flatten = bV (List.replicate k l).flatten := by
      unfold bV
      rw [List.map_flatten, List.map_replicate]
    rw [e]
theorem gd_cat (h : Gd σ H t1 l1) (g : Gd σ H t2 l2) (h1 : l1 ≠ []) (h2 : l2 ≠ []) (h3 : l1.length + l2.length ≤ 1000) : Gd σ H (tOp (rCatT K) t1 t2) (l1 ++ l2) := fun H1 s Q q => by
  refine h H1 s _ fun p H2 s2 hp => ?_
  refine g H2 (s.trans s2) _ fun p2 H3 s3 hp2 => ?_
  refine ⟨p, p2, bV l1, bV l2, rfl, rfl, .inl (.inl (s3 _ _ hp)), .inl (.inl hp2), ?_, ?_, fun e => ?_, fun _ p3 np3 => ?_⟩
  · intro e
    have := congrArg List.length e
    rw [bV_len] at this
    exact h1 (List.eq_nil_of_length_eq_zero this)
  · rw [bV_len, bV_len]
    exact Nat.le_trans h3 (by decide)
  · have := congrArg List.length e
    rw [bV_len] at this
    exact absurd (List.eq_nil_of_length_eq_zero this) h2
  · refine q p3 _ ((s2.trans s3).trans (Same.new np3)) ?_
    rw [upd_same, bV_append]
theorem gd_catA (h : Gd σ H t1 l1) (g : Gd σ H t2 l2) (h3 : l1.length + l2.length ≤ 1000) : Gd σ H (tOp (rCatA K) t1 t2) (l1 ++ l2) := fun H1 s Q q => by
  refine h H1 s _ fun p H2 s2 hp => ?_
  refine g H2 (s.trans s2) _ fun p2 H3 s3 hp2 => ?_
  have nl : ∀ {m : List Nat}, bV m = [] → m = [] := fun {m} e => by
    have := congrArg List.length e
    rw [bV_len] at this
    exact List.eq_nil_of_length_eq_zero this
  refine ⟨p, p2, bV l1, bV l2, rfl, rfl, .inl (.inl (s3 _ _ hp)), .inl (.inl hp2), ?_, fun e => ?_, fun _ e => ?_, fun _ _ p3 np3 => ?_⟩
  · rw [bV_len, bV_len]
    exact Nat.le_trans h3 (by decide)
  · rw [nl e] at q
    exact q p2 H3 (s2.trans s3) hp2
  · rw [nl e, List.append_nil] at q
    exact q p H3 (s2.trans s3) (s3 _ _ hp)
  · refine q p3 _ ((s2.trans s3).trans (Same.new np3)) ?_
    rw [upd_same, bV_append]
/-- a name that holds one -/
theorem gd_var {i : Nat} {p : Addr} (e : σ[i]? = some (some (.ref p))) (hp : H p = some (.tup (bV l))) : Gd σ H (tVar i) l := fun H1 s Q q => ⟨_, e, q p H1 (fun _ _ h => h) (s _ _ hp)⟩
/-- t[:k] -/
theorem gd_upto {i k : Nat} {p : Addr} (e : σ[i]? = some (some (.ref p))) (hp : H p = some (.tup (bV l))) : Gd σ H (tSl (rSlA K) (tVar i) tNoPart (tPart (tC (.int (k : Int))))) (l.take k) := fun H1 s Q q => by
  have hc : HT.sIx (bV l).length (bV l).length (some (k : Int)) = min k l.length := by
    show (if (k : Int) < 0 then ((k : Int) + ((bV l).length : Int)).toNat else min (k : Int).toNat (bV l).length) = _
    rw [if_neg (by omega), bV_len]
    omega
  have hcut : cutV (bV l) none (some (k : Int)) = bV (l.take k) := by
    unfold cutV
    rw [HT.sIx_none, hc, List.drop_zero, Nat.sub_zero]
    unfold bV
    rw [← List.map_take, ← List.take_eq_take_min]
  refine ⟨_, e, _, rfl, p, _, rfl, .inl (.inl (s _ _ hp)), fun h => ?_, fun _ p2 np2 => ?_⟩
  · have h2 := h.2
    rw [hc, bV_len] at h2
    rw [List.take_of_length_le (by omega)] at q
    exact q p H1 (fun _ _ h => h) (s _ _ hp)
  · refine q p2 _ (Same.new np2) ?_
    rw [upd_same]
    exact congrArg (fun z => some (HO.tup z)) hcut
/-- t[:-1] -/
theorem gd_but {i : Nat} {p : Addr} {x : Nat} (e : σ[i]? = some (some (.ref p))) (hp : H p = some (.tup (bV (l ++ [x])))) : Gd σ H (tSl (rSlA K) (tVar i) tNoPart (tPart (tUn (rU fun i => .int (-i)) (tC (.int 1))))) l := fun H1 s Q q => by
  have hc : HT.sIx (bV (l ++ [x])).length (bV (l ++ [x])).length (some (-1)) = l.length := by
    show (if (-1 : Int) < 0 then ((-1 : Int) + ((bV (l ++ [x])).length : Int)).toNat else min (-1 : Int).toNat (bV (l ++ [x])).length) = _
    rw [if_pos (by decide), bV_len, List.length_append, List.length_singleton]
    omega
  have hcut : cutV (bV (l ++ [x])) none (some (-1)) = bV l := by
    unfold cutV
    rw [HT.sIx_none, hc, List.drop_zero, Nat.sub_zero]
    unfold bV
    rw [← List.map_take, List.take_left' rfl]
  refine ⟨_, e, _, rfl, _, rfl, p, _, rfl, .inl (.inl (s _ _ hp)), fun h => ?_, fun _ p2 np2 => ?_⟩
  · have h2 : HT.sIx (bV (l ++ [x])).length (bV (l ++ [x])).length (some (-1)) = _ := h.2
    rw [hc, bV_len, List.length_append, List.length_singleton] at h2
    omega
  · refine q p2 _ (Same.new np2) ?_
    rw [upd_same]
    exact congrArg (fun z => some (HO.tup z)) hcut
theorem gdl_nil : GdL σ H tNil [] := fun H1 s Q q => q [] H1 (fun _ _ h => h) True.intro
theorem gdl_cons {ta : TA} {ls : List (List Nat)} (h : Gd σ H t1 l) (g : GdL σ H ta ls) : GdL σ H (tCons t1 ta) (l :: ls) := fun H1 s Q q => by
  refine h H1 s _ fun p H2 s2 hp => ?_
  refine g H2 (s.trans s2) _ fun ps H3 s3 hps => ?_
  exact q (p :: ps) H3 (s2.trans s3) ⟨s3 _ _ hp, hps⟩
theorem tCons_of {t : TE} {ta : TA} {Q : List V → Hp → Prop} (h : t σ H fun v H1 => ta σ H1 fun vs H2 => Q (v :: vs) H2) : tCons t ta σ H Q := h
theorem tOp_of {r : R2} {ta tb : TE} {Q : VK} (h : ta σ H fun x H1 => tb σ H1 fun y H2 => r x y H2 Q) : tOp r ta tb σ H Q := h
theorem lst_of {ta : TA} {ls : List (List Nat)} (h : GdL σ H ta ls) (hl : ls.length ≤ 1000) {H1 : Hp} (s : Same H H1) {Q : VK} (q : ∀ (ps : List Addr) (b : Addr) (H' : Hp), Same H1 H' → H1 b = none → Tus H' ps ls → H' b = some (.lst (ps.map V.ref)) → Q (.ref b) H') : tLst ta σ H1 Q := by
  refine h H1 s _ fun ps H2 s2 hps => ⟨?_, fun b nb => ?_⟩
  · rw [List.length_map, Tus.len hps]
    exact Nat.le_trans hl (by decide)
  · have s3 : Same H2 (upd H2 b (.lst (ps.map V.ref))) := Same.new nb
    exact q ps b _ (s2.trans s3) (s2.free nb) (Tus.same s3 hps) upd_same
end
/-! ### steps of readings -/
theorem set_nx {i : Nat} {v : V} {σ : St} {H : Hp} {t : TS} {D D' : Ends} (h : t D (σ.set i (some v)) H) : gName i v σ H { nx := t D, rt := D'.rt, bk := D'.bk, ct := D'.ct : Ends }.nx := h
theorem seq_asg {te : TE} {g : TG} {u : TS} {D : Ends} {σ : St} {H : Hp} (R : V → Hp → Prop) (h : ∀ Q' : VK, (∀ v H', R v H' → Q' v H') → te σ H Q') (k : ∀ v H', R v H' → g v σ H' fun σ' H'' => u D σ' H'') : tSeq (tAsg te g) u D σ H := h _ k
theorem seq_par {i j : Nat} {ta : TA} {u : TS} {D : Ends} {σ : St} {H : Hp} (R : V → V → Hp → Prop) (h : ∀ Q' : List V → Hp → Prop, (∀ v w H', R v w H' → Q' [v, w] H') → ta σ H Q') (k : ∀ v w H', R v w H' → u D ((σ.set i (some v)).set j (some w)) H') : tSeq (tPar i j ta) u D σ H := h _ fun v w H' r => ⟨v, w, rfl, k v w H' r⟩
def Ck (K : PySem.W.Frag) (n : Nat) (G : Bool → Hp → Prop) (v w : V) (H : Hp) : Prop := spAlike K n [v, w] H (fun x H3 => ∃ k, x = .bl k ∧ G k H3) (fun _ _ _ => False)
theorem ck_same {K : PySem.W.Frag} {n : Nat} {G : Bool → Hp → Prop} {v w : V} {H : Hp} {d : PyData} (h1 : Dp K H v d) (h2 : Dp K H w d) (p1 : Pl 20 d) (p2 : Pl n d) (g : ∀ H3, Same H H3 → G true H3) : Ck K n G v w H := by
  refine ⟨v, w, d, d, rfl, h1, h2, p1, p2, fun b H' hb s => ⟨b, rfl, ?_⟩⟩
  have hbt : b = true := hb.mpr rfl
  subst hbt
  exact g H' s
theorem chk_of {K : PySem.W.Frag} {n : Nat} {te1 te2 : TE} {no u : TS} {D : Ends} {σ : St} {H : Hp} (h : te1 σ H fun v H1 => te2 σ H1 fun w H2 => Ck K n (fun k H3 => if (!k) = true then no { D with nx := u D } σ H3 else u D σ H3) v w H2) :
    tSeq (tIfS (tNot (tB (tCall (spAlike K n) [] E0 (tCons te1 (tCons te2 tNil))))) no tNext) u D σ H := h
theorem chk_end {K : PySem.W.Frag} {n : Nat} {te1 te2 : TE} {no : TS} {D : Ends} {σ : St} {H : Hp} (h : te1 σ H fun v H1 => te2 σ H1 fun w H2 => Ck K n (fun k H3 => if (!k) = true then no D σ H3 else D.nx σ H3) v w H2) :
    tIfS (tNot (tB (tCall (spAlike K n) [] E0 (tCons te1 (tCons te2 tNil))))) no tNext D σ H := h
theorem tCallS_of {sp : Sp} {E : St → XK} {t : TA} {σ : St} {H : Hp} {Q : VK} (h : t σ H fun vs H1 => sp vs H1 Q (E σ)) : tCallS sp E t σ H Q := h
theorem tVar_of {i : Nat} {v : V} {σ : St} {H : Hp} {Q : VK} (e : σ[i]? = some (some v)) (h : Q v H) : tVar i σ H Q := ⟨v, e, h⟩
def ForR (J : It) (g : TG) (tb : TS) (D : Ends) (σ : St) (H1 : Hp) : Prop := ∃ W : Nat → Nat → St → Hp → Prop, (∃ m, W 0 m σ H1) ∧ ∀ i m σ H, W i m σ H →
  (J.stop i H ∧ D.nx σ H) ∨ (J.go i H ∧ ∃ N : St → Hp → Prop, (∀ σ' H', N σ' H' → ∃ m', m' < m ∧ W (i + 1) m' σ' H') ∧ ∀ x H', J.yld i H x H' → g x σ H' fun σ2 H2 => tb { D with nx := N, ct := N, bk := D.nx } σ2 H2)
theorem for_of {K : PySem.W.Frag} {te : TE} {g : TG} {tb u : TS} {D : Ends} {σ : St} {H : Hp} {i : Nat} {v : V} (h : te (σ.set i (some v)) H fun x H1 => ∃ a, x = .ref a ∧ (∃ xs, SqL K H1 a xs) ∧ ForR (Itl K a) g tb { D with nx := u D } (σ.set i (some v)) H1) :
    gName i v σ H fun σ' H'' => tSeq (tFor (iList K te) g tb) u D σ' H'' := h
theorem at_last (l : List Nat) (x : Nat) : atI (bV (l ++ [x])) (-1) = some (.int (x : Int)) := by
  have e : ixN (l ++ [x]).length (-1) = some l.length := by
    unfold ixN
    rw [List.length_append, List.length_singleton, if_neg (by omega), if_pos (by omega)]
    congr 1
    omega
  unfold atI
  rw [bV_len, e]
  show (bV (l ++ [x]))[l.length]? = _
  refine bV_at ?_
  rw [List.getElem?_append_right (Nat.le_refl _), Nat.sub_self]
  rfl
theorem tCall_of {sp : Sp} {dvs : List V} {E : XK} {t : TA} {σ : St} {H : Hp} {Q : VK} (h : t σ H fun vs H1 => sp (vs ++ dvs) H1 Q E) : tCall sp dvs E t σ H Q := h
theorem gd_vv {σ : St} {H : Hp} {i j a b : Nat} {x y : Int} (e1 : σ[i]? = some (some (.int x))) (e2 : σ[j]? = some (some (.int y))) (h1 : x = (a : Int)) (h2 : y = (b : Int)) : Gd σ H (tTup (tCons (tVar i) (tCons (tVar j) tNil))) [a, b] := fun H1 s Q q => ⟨_, e1, _, e2, (by show 2 ≤ sizeLine; decide), fun p hp => q p _ (Same.new hp) (by rw [upd_same, h1, h2]; rfl)⟩
end K06
namespace K06
open PySem L2 Pg RZ
abbrev slaw : Stmt := top 31
abbrev nlaw : List Str := ["script", "row", "pool", "one", "two", "poly", "place", "both", "left", "root", "lead", "k", "number"]
abbrev plaw : List Str := ["script"]
theorem sclaw : FnScope nlaw plaw (defScope slaw) := ⟨rfl, rfl, rfl, by decide +kernel, rfl, by decide +kernel, by decide +kernel⟩
def spLaw (K : PySem.W.Frag) : Sp := fun vs H Q _ => ∃ (a : Addr) (ns : List Int), vs = [.ref a] ∧ SqL K H a (ns.map V.int) ∧ ns.length ≤ 63 ∧ ∀ H', Q (.bl true) H'
theorem inV_bV (n : Nat) : ∀ l : List Nat, inV (.int (n : Int)) (bV l) = decide (n ∈ l)
  | [] => rfl
  | a :: l => by
    show (eqV (.int (a : Int)) (.int (n : Int)) || inV (.int (n : Int)) (bV l)) = _
    rw [inV_bV n l]
    have e : eqV (.int (a : Int)) (.int (n : Int)) = decide (n = a) := by
      show decide ((a : Int) = (n : Int)) = _
      rw [decide_eq_decide]
      omega
    rw [e, Bool.eq_iff_iff]
    simp
theorem flat_bV (l : List Nat) : (bV l).all flatV = true := by
  rw [List.all_eq_true]
  intro v hv
  obtain ⟨n, _, rfl⟩ := List.mem_map.mp hv
  rfl
theorem first_at {n : Nat} : ∀ {l : List Nat}, n ∈ l → ∃ j : Nat, l[j]? = some n ∧ ∀ k : Nat, k < j → l[k]? ≠ some n
  | a :: l, h => by
    by_cases e : a = n
    · exact ⟨0, by rw [e]; rfl, fun k hk => by omega⟩
    · have h2 : n ∈ l := by
        rcases List.mem_cons.mp h with h | h
        · exact absurd h.symm e
        · exact h
      obtain ⟨j, h3, h4⟩ := first_at h2
      refine ⟨j + 1, by rw [List.getElem?_cons_succ]; exact h3, fun k hk => ?_⟩
      cases k with
      | zero => intro z; exact e (Option.some.inj z)
      | succ k => rw [List.getElem?_cons_succ]; exact h4 k (by omega)
theorem erase_perm : ∀ {l : List Nat} {j n : Nat}, l[j]? = some n → l.Perm (n :: l.eraseIdx j)
  | [], _, _, h => by cases h
  | a :: l, 0, n, h => by
    obtain rfl : a = n := Option.some.inj h
    exact .refl _
  | a :: l, j + 1, n, h => by
    rw [List.getElem?_cons_succ] at h
    exact ((erase_perm h).cons a).trans (List.Perm.swap n a _)
theorem ers_map {α β : Type} (f : α → β) : ∀ (l : List α) (j : Nat), (l.map f).eraseIdx j = (l.eraseIdx j).map f
  | [], _ => rfl
  | _ :: _, 0 => rfl
  | a :: l, j + 1 => by
    show f a :: (l.map f).eraseIdx j = f a :: (l.eraseIdx j).map f
    rw [ers_map f l j]
theorem bV_int (l : List Nat) : (l.map fun n : Nat => (n : Int)).map V.int = bV l := by
  unfold bV
  rw [List.map_map]
  rfl
theorem nats_of {ys : List Int} {l : List Nat} (h : ys.Perm (l.map fun n : Nat => (n : Int))) : ys.map V.int = bV (ys.map Int.toNat) ∧ (ys.map Int.toNat).Perm l := by
  refine ⟨?_, ?_⟩
  · unfold bV
    rw [List.map_map]
    refine List.map_congr_left fun y hy => ?_
    obtain ⟨n, _, rfl⟩ := List.mem_map.mp (h.mem_iff.mp hy)
    show V.int (n : Int) = V.int ((n : Int).toNat : Int)
    rw [Int.toNat_natCast]
  · have := h.map Int.toNat
    rw [List.map_map] at this
    have e : l.map (Int.toNat ∘ fun n : Nat => (n : Int)) = l := by
      have : (Int.toNat ∘ fun n : Nat => (n : Int)) = id := by
        funext n
        exact Int.toNat_natCast n
      rw [this, List.map_id]
    rw [e] at this
    exact this
theorem plT {l : List Nat} (hl : l.length ≤ 100000) (n : Nat) : Pl (n + 1) (.tuple (dI l)) := ⟨by unfold dI; rw [List.length_map]; exact hl, fun y hy => by
  obtain ⟨w, _, rfl⟩ := List.mem_map.mp hy
  cases n <;> exact True.intro⟩
theorem nx_id {t : TS} {D : Ends} {r : VK} {b c : L2.St → Hp → Prop} {σ : L2.St} {H : Hp} (h : t D σ H) : ({ nx := t D, rt := r, bk := b, ct := c } : Ends).nx σ H := h
theorem pl1 (a b : Int) (n : Nat) : Pl (n + 2) (.list [.int a, .int b]) := ⟨by show 2 ≤ 100000; decide, fun z hz => by
  rcases List.mem_cons.mp hz with rfl | hz
  · exact True.intro
  · rw [List.mem_singleton.mp hz]; exact True.intro⟩
theorem pl2 {l m : List Nat} (hl : l.length ≤ 100000) (hm : m.length ≤ 100000) (n : Nat) : Pl (n + 2) (.list [.tuple (dI l), .tuple (dI m)]) := ⟨by show 2 ≤ 100000; decide, fun z hz => by
  rcases List.mem_cons.mp hz with rfl | hz
  · exact ⟨by unfold dI; rw [List.length_map]; exact hl, fun y hy => by
      obtain ⟨w, _, rfl⟩ := List.mem_map.mp hy
      cases n <;> exact True.intro⟩
  · rw [List.mem_singleton.mp hz]
    exact ⟨by unfold dI; rw [List.length_map]; exact hm, fun y hy => by
      obtain ⟨w, _, rfl⟩ := List.mem_map.mp hy
      cases n <;> exact True.intro⟩⟩
section
variable {P : Program} {w : World} {K : PySem.W.Frag} {mg : Str → Option Value} {base : Heap}
theorem ok_law {f fPr fT fPk fBy fFr fA fVa fAt fCo fPw : Addr} {fd fdPr fdT fdPk fdBy fdFr fdA fdVa fdAt fdCo fdPw : FuncData} (D : Dfn K mg "law" slaw plaw f fd) (B : Bi mg) (T : TP mg)
    (DPr : Dfn K mg "_law_prime" s_law_prime p_law_prime fPr fdPr) (GPr : FnOk P w K mg base CX0 1 fPr fdPr p_law_prime spPr)
    (DT : Dfn K mg "_law_taken" s_law_taken p_law_taken fT fdT) (GT : FnOk P w K mg base CX0 1 fT fdT p_law_taken (spTaken K))
    (DPk : Dfn K mg "_law_pick" s_law_pick p_law_pick fPk fdPk) (GPk : FnOk P w K mg base CX0 2 fPk fdPk p_law_pick (spPick K))
    (DBy : Dfn K mg "by_roots" sby_roots pby_roots fBy fdBy) (GBy : FnOk P w K mg base CX0 4 fBy fdBy pby_roots (spWith K))
    (DFr : Dfn K mg "_law_from_roots" s_law_from_roots p_law_from_roots fFr fdFr) (GFr : FnOk P w K mg base CX0 2 fFr fdFr p_law_from_roots (spFr K))
    (DA : Dfn K mg "_law_alike" s_law_alike p_law_alike fA fdA) (GA : FnOk P w K mg base CX0 4 fA fdA p_law_alike (spAlike K 2))
    (DVa : Dfn K mg "value_at" svalue_at pvalue_at fVa fdVa) (GVa : FnOk P w K mg base CX0 5 fVa fdVa pvalue_at (spVat K))
    (DAt : Dfn K mg "_law_at" s_law_at p_law_at fAt fdAt) (GAt : FnOk P w K mg base CX0 2 fAt fdAt p_law_at (spAt K))
    (DCo : Dfn K mg "common" scommon pcommon fCo fdCo) (GCo : FnOk P w K mg base CX0 5 fCo fdCo pcommon (spGcd K))
    (DPw : Dfn K mg "_law_power" s_law_power p_law_power fPw fdPw) (GPw : FnOk P w K mg base CX0 2 fPw fdPw p_law_power spPw) :
    FnOk P w K mg base CX0 6 f fd plaw (spLaw K) := by
  have nd := sclaw.nd
  refine D.F.ok sclaw (fun vs H Q E h => ?_) (fun cdv A outer s H vs Q E hr h => ?_)
  · obtain ⟨a, ns, rfl, _⟩ := h
    rfl
  · obtain ⟨sc, ns, rfl, hS, hlen, q⟩ := h
    have hr1 : Room 1 _ := hr.mono (by decide)
    have hr2 : Room 2 _ := hr.mono (by decide)
    have hr4 : Room 4 _ := hr.mono (by decide)
    refine ⟨_, pss_cons (ps_set (i := 1) nd rfl (.inr rfl) (pe_lst (pa_cons (pv 0) (pa_cons pe_int (pa_cons pe_int (pa_cons pe_int pa_nil))))))
      (pss_cons (ps_set (i := 2) nd rfl (.inr rfl) (pe_op op_cat (pe_lst (pa_cons pe_int (pa_cons pe_int (pa_cons (pe_op op_sub (pe_call0 GPr hr1 (by rfl) DPr.g DPr.F.kp DPr.b .nil pass0) pe_int) pa_nil))))
          (pe_lc (own := [("k", 11)]) (g := gName 11) (tt := tYes) rfl nd (pi_range1 (by rfl) B.range (pa_cons pe_int pa_nil)) (blkOk_by (N := nlaw) (sc := defScope slaw) (by decide +kernel)) (fun _ _ _ _ _ => pg_name (i := 11) nd rfl (.inl rfl)) (fun _ _ _ _ _ => pts_nil)
            (fun _ _ _ _ _ => pe_call GT hr1 (by rfl) DT.g DT.F.kp DT.b .nil pass0 (pa_cons (pv 1) (pa_cons (pe_call0 GPr hr1 (by rfl) DPr.g DPr.F.kp DPr.b .nil pass0) pa_nil))))))
      (pss_cons (ps_setLc (i := 3) (own := [("k", 11)]) (g := gName 11) (tt := tYes) (by rfl) nd rfl rfl (sw_true rfl rfl rfl (by decide +kernel))
          (pi_range1 (by rfl) B.range (pa_cons (pe_call GT hr1 (by rfl) DT.g DT.F.kp DT.b .nil pass0 (pa_cons (pv 1) (pa_cons pe_int pa_nil))) pa_nil)) (blkOk_by (N := nlaw) (sc := defScope slaw) (by decide +kernel)) (fun _ _ _ _ _ => pg_name (i := 11) nd rfl (.inl rfl)) (fun _ _ _ _ _ => pts_nil)
          (fun _ _ _ _ _ => pe_call GPk hr2 (by rfl) DPk.g DPk.F.kp DPk.b .nil pass0 (pa_cons (pv 1) (pa_cons (pv 2) pa_nil))))
      (pss_cons (ps_setLc (i := 4) (own := [("k", 11)]) (g := gName 11) (tt := tYes) (by rfl) nd rfl rfl (sw_true rfl rfl rfl (by decide +kernel))
          (pi_range1 (by rfl) B.range (pa_cons (pe_call GT hr1 (by rfl) DT.g DT.F.kp DT.b .nil pass0 (pa_cons (pv 1) (pa_cons pe_int pa_nil))) pa_nil)) (blkOk_by (N := nlaw) (sc := defScope slaw) (by decide +kernel)) (fun _ _ _ _ _ => pg_name (i := 11) nd rfl (.inl rfl)) (fun _ _ _ _ _ => pts_nil)
          (fun _ _ _ _ _ => pe_call GPk hr2 (by rfl) DPk.g DPk.F.kp DPk.b .nil pass0 (pa_cons (pv 1) (pa_cons (pv 2) pa_nil))))
      (pss_cons (ps_if (pt_not (pt_val (pe_call GA hr4 (by rfl) DA.g DA.F.kp DA.b .nil pass0 (pa_cons (pe_lst (pa_cons (pe_call GBy hr4 (by rfl) DBy.g DBy.F.kp DBy.b .nil pass0 (pa_cons (pe_callTy call_tuple_of (by rfl) B.tuple (by decide +kernel) (pa_cons (pv 3) pa_nil)) pa_nil))
            (pa_cons (pe_call GBy hr4 (by rfl) DBy.g DBy.F.kp DBy.b .nil pass0 (pa_cons (pe_callTy call_tuple_of (by rfl) B.tuple (by decide +kernel) (pa_cons (pv 4) pa_nil)) pa_nil)) pa_nil)))
          (pa_cons (pe_lst (pa_cons (pe_call GFr hr2 (by rfl) DFr.g DFr.F.kp DFr.b .nil pass0 (pa_cons (pv 3) pa_nil)) (pa_cons (pe_call GFr hr2 (by rfl) DFr.g DFr.F.kp DFr.b .nil pass0 (pa_cons (pv 4) pa_nil)) pa_nil))) pa_nil))))) (pss_one (ps_ret pe_bl)) pss_nil)
      (pss_cons (ps_set (i := 5) nd rfl (.inl rfl) (pe_callTy call_tuple_of (by rfl) B.tuple (by decide +kernel) (pa_cons (pe_op op_cat
          (pe_lc (own := [("k", 11)]) (g := gName 11) (tt := tYes) rfl nd (pi_range1 (by rfl) B.range (pa_cons (pe_call GT hr1 (by rfl) DT.g DT.F.kp DT.b .nil pass0 (pa_cons (pv 1) (pa_cons pe_int pa_nil))) pa_nil)) (blkOk_by (N := nlaw) (sc := defScope slaw) (by decide +kernel)) (fun _ _ _ _ _ => pg_name (i := 11) nd rfl (.inl rfl)) (fun _ _ _ _ _ => pts_nil)
            (fun _ _ _ _ _ => pe_call GT hr1 (by rfl) DT.g DT.F.kp DT.b .nil pass0 (pa_cons (pv 1) (pa_cons (pe_call0 GPr hr1 (by rfl) DPr.g DPr.F.kp DPr.b .nil pass0) pa_nil))))
          (pe_lst (pa_cons (pe_op op_add pe_int (pe_call GT hr1 (by rfl) DT.g DT.F.kp DT.b .nil pass0 (pa_cons (pv 1) (pa_cons (pe_op op_sub (pe_call0 GPr hr1 (by rfl) DPr.g DPr.F.kp DPr.b .nil pass0) pe_int) pa_nil)))) pa_nil))) pa_nil)))
      (pss_cons (ps_set (i := 6) nd rfl (.inl rfl) (pe_call GPk hr2 (by rfl) DPk.g DPk.F.kp DPk.b .nil pass0 (pa_cons (pv 1) (pa_cons (pv 2) pa_nil))))
      (pss_cons (ps_if (pt_not (pt_val (pe_call GA hr4 (by rfl) DA.g DA.F.kp DA.b .nil pass0 (pa_cons (pe_lst (pa_cons (pe_call GVa hr (by rfl) DVa.g DVa.F.kp DVa.b .nil pass0 (pa_cons (pv 5) (pa_cons (pv 6) pa_nil)))
            (pa_cons (pe_call GVa hr (by rfl) DVa.g DVa.F.kp DVa.b .nil pass0 (pa_cons (pe_tup pa_nil) (pa_cons (pv 6) pa_nil))) pa_nil)))
          (pa_cons (pe_lst (pa_cons (pe_call GAt hr2 (by rfl) DAt.g DAt.F.kp DAt.b .nil pass0 (pa_cons (pv 5) (pa_cons (pv 6) pa_nil))) (pa_cons pe_int pa_nil))) pa_nil))))) (pss_one (ps_ret pe_bl)) pss_nil)
      (pss_cons (ps_par (i := 7) (j := 8) (by rfl) nd rfl rfl (by decide) rfl rfl (pa_cons (pe_lst pa_nil) (pa_cons (pe_callTy call_list_of (by rfl) B.list (by decide +kernel) (pa_cons (pv 4) pa_nil)) pa_nil)) (by rfl))
      (pss_cons (ps_for PassesOwn.never rfl (pi_list (pv 3)) (pg_name (i := 9) nd rfl (.inl rfl))
        (pss_one (ps_if (pt_cmpR op_in_seq (pv 9) (pv 8) (by rfl))
          (pss_cons (ps_set (i := 7) nd rfl (.inl rfl) (pe_op op_cat (pv 7) (pe_lst (pa_cons (pv 9) pa_nil))))
          (pss_one (ps_expr (pe_bm PySem.F.plainAttrs_list PySem.F.slot_list_remove PySem.F.type_list_remove mt_remove (pv 8) (pa_cons (pv 9) pa_nil))))) pss_nil)))
      (pss_cons (ps_if (pt_not (pt_val (pe_call GA hr4 (by rfl) DA.g DA.F.kp DA.b .nil pass0 (pa_cons (pe_call GCo hr (by rfl) DCo.g DCo.F.kp DCo.b .nil pass0
            (pa_cons (pe_call GFr hr2 (by rfl) DFr.g DFr.F.kp DFr.b .nil pass0 (pa_cons (pv 3) pa_nil)) (pa_cons (pe_call GFr hr2 (by rfl) DFr.g DFr.F.kp DFr.b .nil pass0 (pa_cons (pv 4) pa_nil)) pa_nil)))
          (pa_cons (pe_call GFr hr2 (by rfl) DFr.g DFr.F.kp DFr.b .nil pass0 (pa_cons (pe_callB cr_sorted (by rfl) T.so (by decide +kernel) (pa_cons (pv 7) pa_nil)) pa_nil)) pa_nil))))) (pss_one (ps_ret pe_bl)) pss_nil)
      (pss_cons (ps_set (i := 10) nd rfl (.inr rfl) (pe_call GPw hr2 (by rfl) DPw.g DPw.F.kp DPw.b .nil pass0 (pa_cons (pe_ix ix_tup (pv 5) (pe_un un_neg pe_int) (fun _ _ => rfl)) (pa_cons (pe_op op_sub (pe_call0 GPr hr1 (by rfl) DPr.g DPr.F.kp DPr.b .nil pass0) pe_int) pa_nil))))
      (pss_one (ps_ret (pe_and (pe_cmpR (op_eqD hr.units) (pe_call GCo hr (by rfl) DCo.g DCo.F.kp DCo.b .nil pass0 (pa_cons (pe_tup pa_nil) (pa_cons (pe_tup pa_nil) pa_nil))) (pe_tup pa_nil) (nomark _))
        (pe_one (pe_cmpR (op_eqD hr.units) (pe_call GCo hr (by rfl) DCo.g DCo.F.kp DCo.b .nil pass0 (pa_cons (pv 5) (pa_cons (pe_tup pa_nil) pa_nil)))
          (pe_callTy call_tuple_of (by rfl) B.tuple (by decide +kernel) (pa_cons
            (pe_lc (own := [("number", 12)]) (g := gName 12) (tt := tYes) rfl nd (pi_tup (pv 5)) (blkOk_by (N := nlaw) (sc := defScope slaw) (by decide +kernel)) (fun _ _ _ _ _ => pg_name (i := 12) nd rfl (.inl rfl)) (fun _ _ _ _ _ => pts_nil)
              (fun _ _ _ _ _ => pe_op op_mod (pe_callTy call_int1 (by rfl) B.int (by decide +kernel) (pa_cons (pe_op op_mulW (pv 12) (pv 10)) pa_nil)) (pe_call0 GPr hr1 (by rfl) DPr.g DPr.F.kp DPr.b .nil pass0))) pa_nil)) (nomark _))))))))))))))))), ?_⟩
    -- row
    refine ⟨_, rfl, (by show 4 ≤ sizeLine; decide), fun r hr0 => ?_⟩
    have R0 : RowI K (upd H r (.lst [.ref sc, .int 0, .int 10706, .int 0])) r sc ns := RowI.start hS hr0 (by decide) (by decide)
    generalize upd H r (.lst [.ref sc, .int 0, .int 10706, .int 0]) = H0 at R0
    -- pool
    refine ⟨rfl, _, _, rfl, rfl, (by show 3 ≤ sizeLine; decide), fun z nz => ?_⟩
    have R1 := R0.same (Same.new (o := .lst [.int 0, .int 1, .int (2305843009213693951 - 1)]) nz)
    have hz1 : (upd H0 z (.lst [.int 0, .int 1, .int (2305843009213693951 - 1)])) z = some (.lst (bV [0, 1, 2305843009213693950])) := upd_same
    have zr : z ≠ r := R0.new nz
    generalize upd H0 z (.lst [.int 0, .int 1, .int (2305843009213693951 - 1)]) = H1 at R1 hz1
    refine ⟨6, rfl, by decide, by decide, fun Dl hD => ?_⟩
    have nDr : Dl ≠ r := R1.new hD
    refine lc_range (lo := 0) (n := 6) (fun i H2 => ∃ l : List Nat, l.length = i ∧ Pm l ∧ H2 Dl = some (.lst (bV l)) ∧ RowI K H2 r sc ns ∧ Keep r H1 H2) ?_ ?_ ?_
    · exact ⟨[], rfl, (fun o h => by cases h), upd_same, R1.same (Same.new hD), Keep.new hD⟩
    · rintro i H2 hi ⟨l, hl, hb, hd, R2, k2⟩
      refine ⟨rfl, ?_⟩
      refine yes ?_
      refine ⟨_, rfl, rfl, r, sc, ns, _, rfl, R2, by decide, by decide, fun v H3 v0 v1 R3 k3 => ?_⟩
      obtain ⟨n, rfl⟩ := Int.eq_ofNat_of_zero_le v0
      have hd3 := k3 _ _ nDr hd
      have kk : Keep r H1 (L2.upd H3 Dl (.lst (bV l ++ [.int (n : Int)]))) := fun b o n e => by
        rw [upd_ne (ne_of_none e hD)]
        exact (k2.trans k3) b o n e
      refine ⟨_, hd3, ?_, l ++ [n], ?_, Pm.snoc (by omega) hb, ?_, R3.ups R1 nDr kk, kk⟩
      · rw [bV_len, sizeLine_eq]
        omega
      · rw [List.length_append, hl]
        rfl
      · rw [upd_same, bV_app]
    rintro H2 ⟨l, hl, hb, hd, R2, k2⟩
    have hz2 := k2 _ _ zr hz1
    refine ⟨z, Dl, _, _, rfl, rfl, hz2, hd, ?_, fun pl npl => ?_⟩
    · rw [bV_len, bV_len, sizeLine_eq]
      show 3 + l.length ≤ _
      omega
    have R3 := R2.same (Same.new (o := .lst (bV [0, 1, 2305843009213693950] ++ bV l)) npl)
    have hpl3 : (upd H2 pl (.lst (bV [0, 1, 2305843009213693950] ++ bV l))) pl = some (.lst (bV ([0, 1, 2305843009213693950] ++ l))) := by rw [upd_same, bV_append]
    have plr : pl ≠ r := R2.new npl
    have hPm : Pm ([0, 1, 2305843009213693950] ++ l) := Pm.cons (by omega) (Pm.cons (by omega) (Pm.cons (by omega) hb))
    have hPl : ([0, 1, 2305843009213693950] ++ l).length = 9 := by
      show l.length + 1 + 1 + 1 = 9
      omega
    generalize upd H2 pl (.lst (bV [0, 1, 2305843009213693950] ++ bV l)) = H3 at R3 hpl3
    generalize [0, 1, 2305843009213693950] ++ l = PL at hpl3 hPm hPl
    -- one
    refine ⟨_, rfl, r, sc, ns, 9, rfl, R3, by decide, by decide, fun v H4 v0 v1 R4 k4 => ?_⟩
    obtain ⟨n1, rfl⟩ := Int.eq_ofNat_of_zero_le v0
    have hpl4 := k4 _ _ plr hpl3
    refine ⟨n1, rfl, by omega, by omega, fun D1 hD1 => ?_⟩
    have D1r := R4.new hD1
    refine lc_range (lo := 0) (n := n1) (fun i H5 => ∃ l : List Nat, l.length = i ∧ Pm l ∧ H5 D1 = some (.lst (bV l)) ∧ RowI K H5 r sc ns ∧ Keep r H4 H5) ⟨[], rfl, (fun o h => by cases h), upd_same, R4.same (Same.new hD1), Keep.new hD1⟩ ?_ ?_
    · rintro i X5 hi ⟨l, hl, hb, hd, Ra, ka⟩
      refine ⟨rfl, ?_⟩
      refine yes ?_
      refine ⟨_, rfl, _, rfl, r, sc, ns, pl, bV PL, rfl, Ra, SqL.of (ka _ _ plr hpl4), plr, by rw [bV_len]; omega, by rw [bV_len]; omega, fun v X6 hv Rb kb => ?_⟩
      obtain ⟨n, hn, rfl⟩ := List.mem_map.mp hv
      have hnP := hPm n hn
      have hd3 := kb _ _ D1r hd
      have kk : Keep r H4 (L2.upd X6 D1 (.lst (bV l ++ [.int (n : Int)]))) := fun b o n e => by
        rw [upd_ne (ne_of_none e hD1)]
        exact (ka.trans kb) b o n e
      refine ⟨_, hd3, ?_, l ++ [n], ?_, Pm.snoc hnP hb, ?_, Rb.ups R4 D1r kk, kk⟩
      · rw [bV_len, sizeLine_eq]
        omega
      · rw [List.length_append, hl]
        rfl
      · rw [upd_same, bV_app]
    rintro H5 ⟨one, hl1, hb1, hd1, R5, k5⟩
    -- two
    refine ⟨_, rfl, r, sc, ns, 9, rfl, R5, by decide, by decide, fun v H6 w0 w1 R6 k6 => ?_⟩
    obtain ⟨n2, rfl⟩ := Int.eq_ofNat_of_zero_le w0
    have hpl6 := (k5.trans k6) _ _ plr hpl4
    have hd16 := k6 _ _ D1r hd1
    refine ⟨n2, rfl, by omega, by omega, fun D2 hD2 => ?_⟩
    have D2r := R6.new hD2
    refine lc_range (lo := 0) (n := n2) (fun i H5 => ∃ l : List Nat, l.length = i ∧ Pm l ∧ H5 D2 = some (.lst (bV l)) ∧ RowI K H5 r sc ns ∧ Keep r H6 H5) ⟨[], rfl, (fun o h => by cases h), upd_same, R6.same (Same.new hD2), Keep.new hD2⟩ ?_ ?_
    · rintro i X5 hi ⟨l, hl, hb, hd, Ra, ka⟩
      refine ⟨rfl, ?_⟩
      refine yes ?_
      refine ⟨_, rfl, _, rfl, r, sc, ns, pl, bV PL, rfl, Ra, SqL.of (ka _ _ plr hpl6), plr, by rw [bV_len]; omega, by rw [bV_len]; omega, fun v X6 hv Rb kb => ?_⟩
      obtain ⟨n, hn, rfl⟩ := List.mem_map.mp hv
      have hnP := hPm n hn
      have hd3 := kb _ _ D2r hd
      have kk : Keep r H6 (L2.upd X6 D2 (.lst (bV l ++ [.int (n : Int)]))) := fun b o n e => by
        rw [upd_ne (ne_of_none e hD2)]
        exact (ka.trans kb) b o n e
      refine ⟨_, hd3, ?_, l ++ [n], ?_, Pm.snoc hnP hb, ?_, Rb.ups R6 D2r kk, kk⟩
      · rw [bV_len, sizeLine_eq]
        omega
      · rw [List.length_append, hl]
        rfl
      · rw [upd_same, bV_app]
    rintro H7 ⟨two, hl2, hb2, hd2, R7, k7⟩
    have hd17 := k7 _ _ D1r hd16
    have hpl7 := k7 _ _ plr hpl6
    have ln1 : one.length ≤ 8 := by omega
    have ln2 : two.length ≤ 8 := by omega
    have bl1 := br_len one
    have bl2 := br_len two
    -- by_roots
    refine set_nx ?_
    refine chk_of ?_
    refine ⟨_, rfl, D1, _, rfl, .inl ⟨SqL.of hd17, fun t1 nt1 => ?_⟩⟩
    have sa := Same.new (o := .tup (bV one)) nt1
    refine ⟨t1, one, rfl, .inl (.inl upd_same), hb1, by omega, fun p1 H8 sb np1 hp1 => ?_⟩
    have s8 := sa.trans sb
    refine ⟨_, rfl, D2, _, rfl, .inl ⟨SqL.of (s8 _ _ hd2), fun t2 nt2 => ?_⟩⟩
    have sc2 := Same.new (o := .tup (bV two)) nt2
    refine ⟨t2, two, rfl, .inl (.inl upd_same), hb2, by omega, fun p2 H9 sd np2 hp2 => ⟨(by show 2 ≤ sizeLine; decide), fun L1 nL1 => ?_⟩⟩
    have s89 := sc2.trans sd
    have se := Same.new (o := .lst [.ref p1, .ref p2]) nL1
    have s10 := (s8.trans s89).trans se
    have hL1 : (upd H9 L1 (.lst [.ref p1, .ref p2])) L1 = some (.lst [.ref p1, .ref p2]) := upd_same
    have hp1' := se _ _ (s89 _ _ hp1)
    have hp2' := se _ _ hp2
    generalize upd H9 L1 (.lst [.ref p1, .ref p2]) = H10 at s10 hL1 hp1' hp2' se
    refine ⟨_, rfl, D1, one, rfl, SqL.of (s10 _ _ hd17), hb1, by omega, fun q1 H11 sf nq1 hq1 => ?_⟩
    refine ⟨_, rfl, D2, two, rfl, SqL.of (sf _ _ (s10 _ _ hd2)), hb2, by omega, fun q2 H12 sg nq2 hq2 => ⟨(by show 2 ≤ sizeLine; decide), fun L2' nL2 => ?_⟩⟩
    have sh := Same.new (o := .lst [.ref q1, .ref q2]) nL2
    have sfgh := (sf.trans sg).trans sh
    refine ck_same (d := .list [.tuple (dI (br one)), .tuple (dI (br two))]) (.lst (SqL.of (sfgh _ _ hL1)) (.cons (.tup (.inl (.inl (sfgh _ _ hp1'))) (dI_all K _ _)) (.cons (.tup (.inl (.inl (sfgh _ _ hp2'))) (dI_all K _ _)) .nil)))
      (.lst (SqL.of upd_same) (.cons (.tup (.inl (.inl ((sg.trans sh) _ _ hq1))) (dI_all K _ _)) (.cons (.tup (.inl (.inl (sh _ _ hq2))) (dI_all K _ _)) .nil))) (pl2 (by omega) (by omega) 18) (pl2 (by omega) (by omega) 0) fun H13 si => ?_
    refine iteF ?_
    have s713 := (s10.trans sfgh).trans si
    have R13 := R7.same s713
    have hd113 := s713 _ _ hd17
    have hd213 := s713 _ _ hd2
    have hpl13 := s713 _ _ hpl7
    -- poly
    refine ⟨_, rfl, r, sc, ns, 12, rfl, R13, by decide, by decide, fun v H14 v0 v1 R14 k14 => ?_⟩
    obtain ⟨n3, rfl⟩ := Int.eq_ofNat_of_zero_le v0
    refine ⟨n3, rfl, by omega, by omega, fun D3 hD3 => ?_⟩
    have D3r := R14.new hD3
    refine lc_range (lo := 0) (n := n3) (fun i H5 => ∃ l : List Nat, l.length = i ∧ Pm l ∧ H5 D3 = some (.lst (bV l)) ∧ RowI K H5 r sc ns ∧ Keep r H14 H5) ⟨[], rfl, (fun o h => by cases h), upd_same, R14.same (Same.new hD3), Keep.new hD3⟩ ?_ ?_
    · rintro i X5 hi ⟨l, hl, hb, hd, Ra, ka⟩
      refine ⟨rfl, ?_⟩
      refine yes ?_
      refine ⟨_, rfl, rfl, r, sc, ns, _, rfl, Ra, by decide, by decide, fun v X6 v0 v1 Rb kb => ?_⟩
      obtain ⟨n, rfl⟩ := Int.eq_ofNat_of_zero_le v0
      have hnP : n < 2305843009213693951 := by omega
      have hd3 := kb _ _ D3r hd
      have kk : Keep r H14 (L2.upd X6 D3 (.lst (bV l ++ [.int (n : Int)]))) := fun b o n e => by
        rw [upd_ne (ne_of_none e hD3)]
        exact (ka.trans kb) b o n e
      refine ⟨_, hd3, ?_, l ++ [n], ?_, Pm.snoc hnP hb, ?_, Rb.ups R14 D3r kk, kk⟩
      · rw [bV_len, sizeLine_eq]
        omega
      · rw [List.length_append, hl]
        rfl
      · rw [upd_same, bV_app]
    rintro H15 ⟨pc, hl3, hb3, hd3, R15, k15⟩
    refine ⟨_, rfl, rfl, _, _, rfl, rfl, r, sc, ns, _, rfl, R15, by decide, by decide, fun v H16 w0 w1 R16 k16 => ?_⟩
    obtain ⟨m, rfl⟩ := Int.eq_ofNat_of_zero_le w0
    have hmP : 1 + m < 2305843009213693951 := by omega
    refine ⟨_, _, rfl, rfl, (by show 1 ≤ sizeLine; decide), fun z3 nz3 => ?_⟩
    have hd316 := k16 _ _ D3r hd3
    have s16 := Same.new (o := .lst [.int (1 + (m : Int))]) nz3
    refine ⟨D3, z3, _, _, rfl, rfl, s16 _ _ hd316, upd_same, ?_, fun c3 nc3 => ?_⟩
    · rw [bV_len, sizeLine_eq]
      show pc.length + 1 ≤ _
      omega
    have s17 := s16.trans (Same.new (o := .lst (bV pc ++ [.int (1 + (m : Int))])) nc3)
    refine ⟨c3, _, rfl, .inl ⟨SqL.of upd_same, fun pp npp => ?_⟩⟩
    have s18 := s17.trans (Same.new (o := .tup (bV pc ++ [.int (1 + (m : Int))])) npp)
    have hpp : (upd (upd (upd H16 z3 (.lst [.int (1 + (m : Int))])) c3 (.lst (bV pc ++ [.int (1 + (m : Int))]))) pp (.tup (bV pc ++ [.int (1 + (m : Int))]))) pp = some (.tup (bV (pc ++ [1 + m]))) := by
      rw [upd_same, bV_app]
      rfl
    have R18 := R16.same s18
    have ppr : pp ≠ r := (R16.same s17).new npp
    have k18 := ((k14.trans k15).trans k16).trans (Keep.of s18)
    have hPP : Pm (pc ++ [1 + m]) := Pm.snoc hmP hb3
    have hPl' : (pc ++ [1 + m]).length ≤ 12 := by
      rw [List.length_append]
      show pc.length + 1 ≤ 12
      omega
    have hPlast : (pc ++ [1 + m]).getD ((pc ++ [1 + m]).length - 1) 0 = 1 + m := by
      rw [List.length_append]
      show (pc ++ [1 + m]).getD (pc.length + 1 - 1) 0 = 1 + m
      rw [Nat.add_sub_cancel, List.getD_eq_getElem?_getD, List.getElem?_append_right (Nat.le_refl _), Nat.sub_self]
      rfl
    have hPne : pc ++ [1 + m] ≠ [] := by simp
    have hPz : NoZ (pc ++ [1 + m]) := .inr (by rw [hPlast]; omega)
    generalize upd (upd (upd H16 z3 (.lst [.int (1 + (m : Int))])) c3 (.lst (bV pc ++ [.int (1 + (m : Int))]))) pp (.tup (bV pc ++ [.int (1 + (m : Int))])) = H18 at hpp R18 k18 s18
    generalize pc ++ [1 + m] = PY at hpp hPP hPl' hPlast hPne hPz
    have hd118 := k18 _ _ D1r hd113
    have hd218 := k18 _ _ D2r hd213
    have hpl18 := k18 _ _ plr hpl13
    -- place
    refine ⟨_, rfl, _, rfl, r, sc, ns, pl, bV PL, rfl, R18, SqL.of hpl18, plr, by rw [bV_len]; omega, by rw [bV_len]; omega, fun v H19 hv R19 k19 => ?_⟩
    obtain ⟨x, hx, rfl⟩ := List.mem_map.mp hv
    have hxP := hPm x hx
    have hpp19 := k19 _ _ ppr hpp
    have hd119 := k19 _ _ D1r hd118
    have hd219 := k19 _ _ D2r hd218
    refine set_nx ?_
    refine chk_of ?_
    refine ⟨_, rfl, _, rfl, pp, PY, x, rfl, .inl (.inl hpp19), hPP, hPz, by omega, hxP, fun H20 s20 => ⟨Nat.zero_le _, fun z4 nz4 => ?_⟩⟩
    refine ⟨_, rfl, z4, [], x, rfl, .inl (.inl upd_same), (fun n hn => by cases hn), .inl rfl, by decide, hxP, fun H21 s21 => ⟨(by show 2 ≤ sizeLine; decide), fun L3 nL3 => ?_⟩⟩
    have s1921 := s20.trans ((Same.new nz4).trans s21)
    have sL3 := Same.new (o := .lst [.int (hor x PY : Nat), .int (hor x [] : Nat)]) nL3
    have hL3 : (upd H21 L3 (.lst [.int (hor x PY : Nat), .int (hor x [] : Nat)])) L3 = some (.lst [.int (hor x PY : Nat), .int (hor x [] : Nat)]) := upd_same
    have s22 := s1921.trans sL3
    generalize upd H21 L3 (.lst [.int (hor x PY : Nat), .int (hor x [] : Nat)]) = H22 at sL3 hL3 s22
    refine ⟨_, rfl, _, rfl, pp, PY, x, rfl, .inl (.inl (s22 _ _ hpp19)), hPP, hxP, fun H23 s23 => ⟨(by show 2 ≤ sizeLine; decide), fun L4 nL4 => ?_⟩⟩
    have sL4 := Same.new (o := .lst [.int (hor x PY : Nat), .int 0]) nL4
    refine ck_same (d := .list [.int (hor x PY : Nat), .int 0]) (.lst (SqL.of ((s23.trans sL4) _ _ hL3)) (.cons (.int _) (.cons (.int _) .nil))) (.lst (SqL.of upd_same) (.cons (.int _) (.cons (.int _) .nil))) (pl1 _ _ 18) (pl1 _ _ 0) fun H24 s24 => ?_
    refine iteF ?_
    have s1924 := (s22.trans (s23.trans sL4)).trans s24
    have hpp24 := s1924 _ _ hpp19
    have hd124 := s1924 _ _ hd119
    have hd224 := s1924 _ _ hd219
    -- both, left
    refine ⟨Nat.zero_le _, fun bo nbo => ?_⟩
    have sbo := Same.new (o := .lst []) nbo
    refine ⟨_, rfl, D2, _, rfl, .inl (SqL.of (sbo _ _ hd224)), fun lo nlo => ⟨_, _, rfl, ?_⟩⟩
    have slo := Same.new (o := .lst (bV two)) nlo
    have hbo : (upd H24 bo (.lst [])) bo = some (.lst (bV [])) := upd_same
    have hbo2 := slo _ _ hbo
    have s25 := sbo.trans slo
    have nloH : H24 lo = none := sbo.free nlo
    have hlo2 : (upd (upd H24 bo (.lst [])) lo (.lst (bV two))) lo = some (.lst (bV two)) := upd_same
    have hbl : bo ≠ lo := ne_of_none hbo nlo
    generalize upd (upd H24 bo (.lst [])) lo (.lst (bV two)) = H25 at s25 hbo2 hlo2
    refine ⟨_, rfl, D1, rfl, ⟨_, SqL.of (s25 _ _ hd124)⟩, ?_⟩
    refine for_list (K := K) (a := D1) (xs := bV one) (fun i σ H' => ∃ (b : Addr) (bt lt as : List Nat) (v9 : Option V), σ = [some (.ref sc), some (.ref r), some (.ref pl), some (.ref D1), some (.ref D2), some (.ref pp), some (.int x), some (.ref b), some (.ref lo), v9, none, none, none] ∧ Same H24 H' ∧ H24 b = none ∧ b ≠ lo ∧ H' b = some (.lst (bV bt)) ∧ H' lo = some (.lst (bV lt)) ∧ (one.take i).Perm (bt ++ as) ∧ two.Perm (bt ++ lt) ∧ (∀ a, a ∈ as → a ∉ lt))
      ⟨bo, [], two, [], none, rfl, s25, nbo, hbl, hbo2, hlo2, .nil, .refl _, fun a h => by cases h⟩ (fun i σ H' hi h => by obtain ⟨_, _, _, _, _, _, s26, _⟩ := h; exact SqL.of (s26 _ _ hd124)) ?_ ?_
    · rintro i y σ H' hy ⟨b, bt, lt, as, v9, rfl, s26, nb, hbl', hb', hlo', p1, p2, hds⟩
      obtain ⟨n, hn, rfl⟩ := bV_get hy
      have htk : one.take (i + 1) = one.take i ++ [n] := take_more hn
      have hbtl : bt.length ≤ 8 := by
        have := p2.length_eq
        rw [List.length_append] at this
        omega
      refine ⟨_, rfl, _, rfl, lo, _, rfl, .inl (SqL.of hlo'), rfl, flat_bV lt, _, congrArg V.bl (inV_bV n lt), ?_⟩
      by_cases hm : n ∈ lt
      · rw [decide_eq_true hm]
        refine iteT ?_
        refine ⟨_, rfl, _, rfl, (by show 1 ≤ sizeLine; decide), fun z nz => ?_⟩
        have sz := Same.new (o := .lst [.int (n : Int)]) nz
        refine ⟨b, z, _, _, rfl, rfl, sz _ _ hb', upd_same, ?_, fun b2 nb2 => ?_⟩
        · rw [bV_len, sizeLine_eq]
          show bt.length + 1 ≤ _
          omega
        have s27 := sz.trans (Same.new (o := .lst (bV bt ++ [.int (n : Int)])) nb2)
        have hb2 : (upd (upd H' z (.lst [.int (n : Int)])) b2 (.lst (bV bt ++ [.int (n : Int)]))) b2 = some (.lst (bV (bt ++ [n]))) := by rw [upd_same, bV_app]
        have hlo27 := s27 _ _ hlo'
        have nb2' : H24 b2 = none := (s26.trans sz).free nb2
        have hb2lo : b2 ≠ lo := fun e => by
          rw [e, sz _ _ hlo'] at nb2
          cases nb2
        generalize upd (upd H' z (.lst [.int (n : Int)])) b2 (.lst (bV bt ++ [.int (n : Int)])) = H27 at s27 hb2 hlo27
        obtain ⟨j, hj, hfirst⟩ := first_at hm
        refine ⟨_, rfl, .inl ⟨rfl, _, SqL.of hlo27⟩, _, rfl, lo, lt.map (fun m : Nat => (m : Int)), (n : Int), j, rfl, rfl, ?_, ?_, ?_, ?_⟩
        · rw [bV_int]
          exact hlo27
        · rw [List.getElem?_map, hj]
          rfl
        · intro k hk e
          rw [List.getElem?_map] at e
          cases e2 : lt[k]? with
          | none => rw [e2] at e; cases e
          | some u =>
            rw [e2] at e
            have e3 : (u : Int) = (n : Int) := Option.some.inj e
            exact hfirst k hk (by rw [e2]; congr 1; omega)
        · refine ⟨b2, bt ++ [n], lt.eraseIdx j, as, some (.int n), rfl, sameF (s26.trans s27) nloH, nb2', hb2lo, ?_, ?_, ?_, ?_, ?_⟩
          · rw [upd_ne hb2lo]
            exact hb2
          · rw [upd_same, ← bV_int (lt.eraseIdx j), ers_map]
          · rw [htk]
            refine (p1.append_right [n]).trans ?_
            rw [List.append_assoc, List.append_assoc]
            exact List.Perm.append_left bt List.perm_append_comm
          · refine p2.trans ?_
            rw [List.append_assoc]
            exact List.Perm.append_left bt (erase_perm hj)
          · exact fun a ha hl => hds a ha (List.mem_of_mem_eraseIdx hl)
      · rw [decide_eq_false hm]
        refine iteF ?_
        refine ⟨b, bt, lt, as ++ [n], some (.int n), rfl, s26, nb, hbl', hb', hlo', ?_, p2, ?_⟩
        · rw [htk, ← List.append_assoc]
          exact p1.append_right [n]
        · intro a ha
          rcases List.mem_append.mp ha with ha | ha
          · exact hds a ha
          · rw [List.mem_singleton.mp ha]
            exact hm
    rintro σ H' ⟨b, bt, lt, as, v9, rfl, s26, nb, hbl', hb', hlo', p1, p2, hds⟩
    rw [bV_len, List.take_length] at p1
    have hd126 := s26 _ _ hd124
    have hd226 := s26 _ _ hd224
    have hpp26 := s26 _ _ hpp24
    have hbtl : bt.length ≤ 8 := by
      have := p2.length_eq
      rw [List.length_append] at this
      omega
    have hbtP : Pm bt := fun n hn => hb2 n (p2.mem_iff.mpr (List.mem_append_left _ hn))
    -- common
    refine nx_id (t := tSeq _ _) ?_
    refine chk_of ?_
    refine ⟨_, rfl, D1, one, rfl, SqL.of hd126, hb1, by omega, fun g1 H28 s28 ng1 hg1 => ?_⟩
    refine ⟨_, rfl, D2, two, rfl, SqL.of (s28 _ _ hd226), hb2, by omega, fun g2 H29 s29 ng2 hg2 => ?_⟩
    refine ⟨g1, g2, br one, br two, rfl, .inl (.inl (s29 _ _ hg1)), .inl (.inl hg2), br_pm _, br_pm _, br_noz _, br_noz _, by omega, by omega, fun G M p H30 hG hM s30 hp => ?_⟩
    have s2830 := (s28.trans s29).trans s30
    have eM : M = br bt := gcd_br p1 p2 hb1 hb2 hds hG hM
    subst eM
    refine ⟨_, rfl, b, bt.map (fun m : Nat => (m : Int)), rfl, by rw [bV_int]; exact SqL.of (s2830 _ _ hb'), by rw [List.length_map]; omega, fun ys yp hperm _ nyp => ?_⟩
    obtain ⟨ey, py⟩ := nats_of hperm
    have syp := Same.new (o := .lst (ys.map V.int)) nyp
    refine ⟨yp, ys.map Int.toNat, rfl, SqL.of (by rw [upd_same, ey]), (fun n hn => hbtP n (py.mem_iff.mp hn)), by rw [py.length_eq]; omega, fun o H31 s31 no ho => ?_⟩
    rw [br_perm py] at ho
    have bl3 := br_len bt
    refine ck_same (d := .tuple (dI (br bt))) (.tup (Same.seqT (syp.trans s31) hp) (dI_all K _ _)) (.tup (.inl (.inl ho)) (dI_all K _ _)) (plT (by omega) 19) (plT (by omega) 1) fun H32 s32 => ?_
    refine iteF ?_
    have s2632 := (s2830.trans (syp.trans s31)).trans s32
    have hpp32 := s2632 _ _ hpp26
    have hPl0 : 0 < PY.length := List.length_pos_iff.mpr hPne
    have hlast0 : PY.getD (PY.length - 1) 0 ≠ 0 := hPz.elim (fun e => absurd e hPne) id
    -- lead
    refine ⟨_, rfl, _, rfl, pp, _, _, _, rfl, rfl, .inl (.inl hpp32), plast hPl0, rfl, _, _, rfl, rfl, PY.getD (PY.length - 1) 0, rfl, by omega, hPP.at _, fun rl hrl1 hrl2 => ?_⟩
    -- the return
    refine ⟨Nat.zero_le _, fun a1 na1 => ⟨Nat.zero_le _, fun a2 na2 => ?_⟩⟩
    have sa1 := Same.new (o := .tup []) na1
    have sa2 := Same.new (o := .tup []) na2
    refine ⟨a1, a2, [], [], rfl, .inl (.inl (sa2 _ _ upd_same)), .inl (.inl upd_same), (fun n hn => by cases hn), (fun n hn => by cases hn), .inl rfl, .inl rfl, by decide, by decide, fun G1 M1 q1' H33 hG1 hM1 s33 hq1' => ⟨Nat.zero_le _, fun a3 na3 => ?_⟩⟩
    have eM1 := gcd_nil hG1 hM1
    subst eM1
    have sa3 := Same.new (o := .tup []) na3
    refine ⟨.tuple (dI []), .tuple (dI []), .tup (Same.seqT sa3 hq1') (dI_all K _ []), .tup (.inl (.inl upd_same)) .nil, dI_shaped (by decide), dI_shaped (by decide), ?_⟩
    rw [dI_eqvT]
    refine ⟨_, rfl, ?_⟩
    refine iteT ?_
    have hpp34 := (((sa1.trans sa2).trans s33).trans sa3) _ _ hpp32
    generalize upd H33 a3 (.tup []) = H34 at hpp34
    refine ⟨_, rfl, Nat.zero_le _, fun a4 na4 => ?_⟩
    have sa4 := Same.new (o := .tup []) na4
    have hpp35 := sa4 _ _ hpp34
    refine ⟨pp, a4, PY, [], rfl, .inl (.inl hpp35), .inl (.inl upd_same), hPP, (fun n hn => by cases hn), hPz, .inl rfl, by omega, by decide, fun G2 M2 q2' H36 hG2 hM2 s36 hq2' => ?_⟩
    have eM2 := mon_eq hPP hPne hrl2 hG2 hM2
    subst eM2
    have hpp36 := s36 _ _ hpp35
    refine ⟨_, rfl, pp, rfl, ⟨_, .inl (.inl hpp36)⟩, fun Dn hDn => ?_⟩
    refine lc_tup (K := K) (a := pp) (xs := bV PY) (fun i H3 => H3 Dn = some (.lst (bV (scl rl (PY.take i)))) ∧ Same H36 H3) ⟨upd_same, Same.new hDn⟩ (fun i H3 hi h => .inl (.inl (h.2 _ _ hpp36))) ?_ ?_
    · rintro i y H37 hy ⟨hd3', s3'⟩
      obtain ⟨n, hn, rfl⟩ := bV_get hy
      have hi : i < PY.length := (List.getElem?_eq_some_iff.mp hn).1
      have hn2 := hPP n (List.mem_of_getElem? hn)
      refine ⟨rfl, ?_⟩
      refine yes ?_
      refine ⟨_, rfl, _, rfl, _, _, rfl, rfl, wide_mul (a := 62) (b := 62) (by omega) (by omega) (by decide) (by decide) (by decide), .inl ⟨_, rfl, rfl, _, _, rfl, rfl, (by show (0 : Int) < 2305843009213693951; decide), ?_⟩⟩
      refine ⟨_, hd3', ?_, ?_, fun b u hb => ?_⟩
      · rw [bV_len, scl_len, List.length_take, sizeLine_eq]
        omega
      · rw [upd_same, take_more hn]
        unfold scl
        rw [List.map_append, ← bV_append]
        show some (HO.lst (_ ++ [V.int ((n : Int) * (rl : Int) % 2305843009213693951)])) = _
        rw [← md_int]
        rfl
      · rw [upd_ne (ne_of_none hb hDn)]
        exact s3' _ _ hb
    · rintro H37 ⟨hd3', s3'⟩
      rw [bV_len, List.take_length] at hd3'
      refine ⟨Dn, _, rfl, .inl ⟨SqL.of hd3', fun tn ntn => ?_⟩⟩
      have stn := Same.new (o := .tup (bV (scl rl PY))) ntn
      refine ⟨.tuple (dI (scl rl PY)), .tuple (dI (scl rl PY)), .tup (Same.seqT (s3'.trans stn) hq2') (dI_all K _ _), .tup (.inl (.inl upd_same)) (dI_all K _ _), dI_shaped (by rw [scl_len]; omega), dI_shaped (by rw [scl_len]; omega), ?_⟩
      rw [dI_eqvT, decide_eq_true rfl]
      exact q _
end
end K06
namespace K06
open PySem L2 Pg RZ
/-- values of the written part that are these numbers -/
def visN : List Nat → List Value → Bool
  | [], [] => true
  | n :: l, .int i _ :: us => decide (i = (n : Int)) && visN l us
  | _, _ => false
theorem visN_vals : ∀ {l : List Nat} {us : List Value}, visN l us = true → Vals (bV l) us
  | [], [], _ => .nil
  | n :: l, .int i t :: us, h => by
    have h' : (decide (i = (n : Int)) && visN l us) = true := h
    rw [Bool.and_eq_true, decide_eq_true_eq] at h'
    exact .cons ⟨t, by rw [h'.1]⟩ (visN_vals h'.2)
theorem visN_len : ∀ {l : List Nat} {us : List Value}, visN l us = true → us.length = l.length := fun {l us} h => by
  have := (visN_vals h).length
  rw [bV_len] at this
  exact this.symm
theorem tupN_size {l : List Nat} {us : Array Value} (h : visN l us.toList = true) (hl : l.length ≤ 1000) : us.size ≤ sizeLine := by
  have := visN_len h
  rw [Array.length_toList] at this
  rw [this]
  exact Nat.le_trans hl (by decide)
theorem dfn_mk {K : PySem.W.Frag} {h : Heap} {mg : Str → Option Value} {x : Str} {st : Stmt} {ps : List Str} {f : Addr} {oc : Value} {od an : Option Addr} {osl : Array (Option Value)} {kV doc pm cdv ct : Value} (X : K.In h) (G : h.Ns mainGlobals mg)
    (a : PySem.W.nsIn K mainGlobals x = some (some (.ref f))) (l : K.lookup f = some ⟨oc, od, .func (PySem.W.fnOf x x (defArgs st) (defBody st) (defScope st) .none kV doc pm an cdv ct), osl⟩) (c : PySem.W.codeIn K cdv x = true) (k : PySem.W.keepIn K (.ref f) = true)
    (b : ∀ (kV doc pm : Value) (an : Option Addr) (cdv ct : Value) (us : List Value), us.length = ps.length → bindArgs (PySem.W.fnOf x x (defArgs st) (defBody st) (defScope st) .none kV doc pm an cdv ct) ⟨us, []⟩ = pure (ps.zip us)) :
    Dfn K mg x st ps f (PySem.W.fnOf x x (defArgs st) (defBody st) (defScope st) .none kV doc pm an cdv ct) := ⟨fun_mk l c k, PySem.W.mg_of X G a, (fun_mk l c k).binds b⟩
theorem all_mk {l : PySem.W.OpenLaw} {w : World} {K : PySem.W.Frag} {h : Heap} {mg : Str → Option Value} {fa f1 f2 f3 f4 f5 f6 f7 f8 f9 f10 f11 f12 f13 f14 f15 f16 f17 f18 f19 f20 f21 f22 f23 : Addr} (X : K.In h) (G : h.Ns mainGlobals mg) (hfa : mg "law" = some (.ref fa))
    {od1 an1 od2 an2 od3 an3 od4 an4 od5 an5 od6 an6 od7 an7 od8 an8 od9 an9 od10 an10 od11 an11 od12 an12 od13 an13 od14 an14 od15 an15 od16 an16 od17 an17 od18 an18 od19 an19 od20 an20 od21 an21 od22 an22 od23 an23 : Option Addr} {sl1 sl2 sl3 sl4 sl5 sl6 sl7 sl8 sl9 sl10 sl11 sl12 sl13 sl14 sl15 sl16 sl17 sl18 sl19 sl20 sl21 sl22 sl23 : Array (Option Value)} {oc1 kV1 dc1 pm1 cd1 ct1 oc2 kV2 dc2 pm2 cd2 ct2 oc3 kV3 dc3 pm3 cd3 ct3 oc4 kV4 dc4 pm4 cd4 ct4 oc5 kV5 dc5 pm5 cd5 ct5 oc6 kV6 dc6 pm6 cd6 ct6 oc7 kV7 dc7 pm7 cd7 ct7 oc8 kV8 dc8 pm8 cd8 ct8 oc9 kV9 dc9 pm9 cd9 ct9 oc10 kV10 dc10 pm10 cd10 ct10 oc11 kV11 dc11 pm11 cd11 ct11 oc12 kV12 dc12 pm12 cd12 ct12 oc13 kV13 dc13 pm13 cd13 ct13 oc14 kV14 dc14 pm14 cd14 ct14 oc15 kV15 dc15 pm15 cd15 ct15 oc16 kV16 dc16 pm16 cd16 ct16 oc17 kV17 dc17 pm17 cd17 ct17 oc18 kV18 dc18 pm18 cd18 ct18 oc19 kV19 dc19 pm19 cd19 ct19 oc20 kV20 dc20 pm20 cd20 ct20 oc21 kV21 dc21 pm21 cd21 ct21 oc22 kV22 dc22 pm22 cd22 ct22 oc23 kV23 dc23 pm23 cd23 ct23 : Value}
    {t_PRIME t_MOST_ROOTS : Tok}
    (a1 : PySem.W.nsIn K mainGlobals "is_between" = some (some (.ref f1))) (l1 : K.lookup f1 = some ⟨oc1, od1, .func (PySem.W.fnOf "is_between" "is_between" (defArgs sis_between) (defBody sis_between) (defScope sis_between) .none kV1 dc1 pm1 an1 cd1 ct1), sl1⟩) (c1 : PySem.W.codeIn K cd1 "is_between" = true) (k1 : PySem.W.keepIn K (.ref f1) = true)
    (a2 : PySem.W.nsIn K mainGlobals "is_number" = some (some (.ref f2))) (l2 : K.lookup f2 = some ⟨oc2, od2, .func (PySem.W.fnOf "is_number" "is_number" (defArgs sis_number) (defBody sis_number) (defScope sis_number) .none kV2 dc2 pm2 an2 cd2 ct2), sl2⟩) (c2 : PySem.W.codeIn K cd2 "is_number" = true) (k2 : PySem.W.keepIn K (.ref f2) = true)
    (a3 : PySem.W.nsIn K mainGlobals "is_numbers" = some (some (.ref f3))) (l3 : K.lookup f3 = some ⟨oc3, od3, .func (PySem.W.fnOf "is_numbers" "is_numbers" (defArgs sis_numbers) (defBody sis_numbers) (defScope sis_numbers) .none kV3 dc3 pm3 an3 cd3 ct3), sl3⟩) (c3 : PySem.W.codeIn K cd3 "is_numbers" = true) (k3 : PySem.W.keepIn K (.ref f3) = true)
    (a4 : PySem.W.nsIn K mainGlobals "is_poly" = some (some (.ref f4))) (l4 : K.lookup f4 = some ⟨oc4, od4, .func (PySem.W.fnOf "is_poly" "is_poly" (defArgs sis_poly) (defBody sis_poly) (defScope sis_poly) .none kV4 dc4 pm4 an4 cd4 ct4), sl4⟩) (c4 : PySem.W.codeIn K cd4 "is_poly" = true) (k4 : PySem.W.keepIn K (.ref f4) = true)
    (a5 : PySem.W.nsIn K mainGlobals "inverse" = some (some (.ref f5))) (l5 : K.lookup f5 = some ⟨oc5, od5, .func (PySem.W.fnOf "inverse" "inverse" (defArgs sinverse) (defBody sinverse) (defScope sinverse) .none kV5 dc5 pm5 an5 cd5 ct5), sl5⟩) (c5 : PySem.W.codeIn K cd5 "inverse" = true) (k5 : PySem.W.keepIn K (.ref f5) = true)
    (a6 : PySem.W.nsIn K mainGlobals "trimmed" = some (some (.ref f6))) (l6 : K.lookup f6 = some ⟨oc6, od6, .func (PySem.W.fnOf "trimmed" "trimmed" (defArgs strimmed) (defBody strimmed) (defScope strimmed) .none kV6 dc6 pm6 an6 cd6 ct6), sl6⟩) (c6 : PySem.W.codeIn K cd6 "trimmed" = true) (k6 : PySem.W.keepIn K (.ref f6) = true)
    (a7 : PySem.W.nsIn K mainGlobals "value_of" = some (some (.ref f7))) (l7 : K.lookup f7 = some ⟨oc7, od7, .func (PySem.W.fnOf "value_of" "value_of" (defArgs svalue_of) (defBody svalue_of) (defScope svalue_of) .none kV7 dc7 pm7 an7 cd7 ct7), sl7⟩) (c7 : PySem.W.codeIn K cd7 "value_of" = true) (k7 : PySem.W.keepIn K (.ref f7) = true)
    (a8 : PySem.W.nsIn K mainGlobals "poly_scaled" = some (some (.ref f8))) (l8 : K.lookup f8 = some ⟨oc8, od8, .func (PySem.W.fnOf "poly_scaled" "poly_scaled" (defArgs spoly_scaled) (defBody spoly_scaled) (defScope spoly_scaled) .none kV8 dc8 pm8 an8 cd8 ct8), sl8⟩) (c8 : PySem.W.codeIn K cd8 "poly_scaled" = true) (k8 : PySem.W.keepIn K (.ref f8) = true)
    (a9 : PySem.W.nsIn K mainGlobals "poly_divided" = some (some (.ref f9))) (l9 : K.lookup f9 = some ⟨oc9, od9, .func (PySem.W.fnOf "poly_divided" "poly_divided" (defArgs spoly_divided) (defBody spoly_divided) (defScope spoly_divided) .none kV9 dc9 pm9 an9 cd9 ct9), sl9⟩) (c9 : PySem.W.codeIn K cd9 "poly_divided" = true) (k9 : PySem.W.keepIn K (.ref f9) = true)
    (a10 : PySem.W.nsIn K mainGlobals "monic" = some (some (.ref f10))) (l10 : K.lookup f10 = some ⟨oc10, od10, .func (PySem.W.fnOf "monic" "monic" (defArgs smonic) (defBody smonic) (defScope smonic) .none kV10 dc10 pm10 an10 cd10 ct10), sl10⟩) (c10 : PySem.W.codeIn K cd10 "monic" = true) (k10 : PySem.W.keepIn K (.ref f10) = true)
    (a11 : PySem.W.nsIn K mainGlobals "divisor" = some (some (.ref f11))) (l11 : K.lookup f11 = some ⟨oc11, od11, .func (PySem.W.fnOf "divisor" "divisor" (defArgs sdivisor) (defBody sdivisor) (defScope sdivisor) .none kV11 dc11 pm11 an11 cd11 ct11), sl11⟩) (c11 : PySem.W.codeIn K cd11 "divisor" = true) (k11 : PySem.W.keepIn K (.ref f11) = true)
    (a12 : PySem.W.nsIn K mainGlobals "poly_with" = some (some (.ref f12))) (l12 : K.lookup f12 = some ⟨oc12, od12, .func (PySem.W.fnOf "poly_with" "poly_with" (defArgs spoly_with) (defBody spoly_with) (defScope spoly_with) .none kV12 dc12 pm12 an12 cd12 ct12), sl12⟩) (c12 : PySem.W.codeIn K cd12 "poly_with" = true) (k12 : PySem.W.keepIn K (.ref f12) = true)
    (a13 : PySem.W.nsIn K mainGlobals "value_at" = some (some (.ref f13))) (l13 : K.lookup f13 = some ⟨oc13, od13, .func (PySem.W.fnOf "value_at" "value_at" (defArgs svalue_at) (defBody svalue_at) (defScope svalue_at) .none kV13 dc13 pm13 an13 cd13 ct13), sl13⟩) (c13 : PySem.W.codeIn K cd13 "value_at" = true) (k13 : PySem.W.keepIn K (.ref f13) = true)
    (a14 : PySem.W.nsIn K mainGlobals "by_roots" = some (some (.ref f14))) (l14 : K.lookup f14 = some ⟨oc14, od14, .func (PySem.W.fnOf "by_roots" "by_roots" (defArgs sby_roots) (defBody sby_roots) (defScope sby_roots) .none kV14 dc14 pm14 an14 cd14 ct14), sl14⟩) (c14 : PySem.W.codeIn K cd14 "by_roots" = true) (k14 : PySem.W.keepIn K (.ref f14) = true)
    (a15 : PySem.W.nsIn K mainGlobals "common" = some (some (.ref f15))) (l15 : K.lookup f15 = some ⟨oc15, od15, .func (PySem.W.fnOf "common" "common" (defArgs scommon) (defBody scommon) (defScope scommon) .none kV15 dc15 pm15 an15 cd15 ct15), sl15⟩) (c15 : PySem.W.codeIn K cd15 "common" = true) (k15 : PySem.W.keepIn K (.ref f15) = true)
    (a16 : PySem.W.nsIn K mainGlobals "_law_prime" = some (some (.ref f16))) (l16 : K.lookup f16 = some ⟨oc16, od16, .func (PySem.W.fnOf "_law_prime" "_law_prime" (defArgs s_law_prime) (defBody s_law_prime) (defScope s_law_prime) .none kV16 dc16 pm16 an16 cd16 ct16), sl16⟩) (c16 : PySem.W.codeIn K cd16 "_law_prime" = true) (k16 : PySem.W.keepIn K (.ref f16) = true)
    (a17 : PySem.W.nsIn K mainGlobals "_law_taken" = some (some (.ref f17))) (l17 : K.lookup f17 = some ⟨oc17, od17, .func (PySem.W.fnOf "_law_taken" "_law_taken" (defArgs s_law_taken) (defBody s_law_taken) (defScope s_law_taken) .none kV17 dc17 pm17 an17 cd17 ct17), sl17⟩) (c17 : PySem.W.codeIn K cd17 "_law_taken" = true) (k17 : PySem.W.keepIn K (.ref f17) = true)
    (a18 : PySem.W.nsIn K mainGlobals "_law_pick" = some (some (.ref f18))) (l18 : K.lookup f18 = some ⟨oc18, od18, .func (PySem.W.fnOf "_law_pick" "_law_pick" (defArgs s_law_pick) (defBody s_law_pick) (defScope s_law_pick) .none kV18 dc18 pm18 an18 cd18 ct18), sl18⟩) (c18 : PySem.W.codeIn K cd18 "_law_pick" = true) (k18 : PySem.W.keepIn K (.ref f18) = true)
    (a19 : PySem.W.nsIn K mainGlobals "_law_alike" = some (some (.ref f19))) (l19 : K.lookup f19 = some ⟨oc19, od19, .func (PySem.W.fnOf "_law_alike" "_law_alike" (defArgs s_law_alike) (defBody s_law_alike) (defScope s_law_alike) .none kV19 dc19 pm19 an19 cd19 ct19), sl19⟩) (c19 : PySem.W.codeIn K cd19 "_law_alike" = true) (k19 : PySem.W.keepIn K (.ref f19) = true)
    (a20 : PySem.W.nsIn K mainGlobals "_law_from_roots" = some (some (.ref f20))) (l20 : K.lookup f20 = some ⟨oc20, od20, .func (PySem.W.fnOf "_law_from_roots" "_law_from_roots" (defArgs s_law_from_roots) (defBody s_law_from_roots) (defScope s_law_from_roots) .none kV20 dc20 pm20 an20 cd20 ct20), sl20⟩) (c20 : PySem.W.codeIn K cd20 "_law_from_roots" = true) (k20 : PySem.W.keepIn K (.ref f20) = true)
    (a21 : PySem.W.nsIn K mainGlobals "_law_at" = some (some (.ref f21))) (l21 : K.lookup f21 = some ⟨oc21, od21, .func (PySem.W.fnOf "_law_at" "_law_at" (defArgs s_law_at) (defBody s_law_at) (defScope s_law_at) .none kV21 dc21 pm21 an21 cd21 ct21), sl21⟩) (c21 : PySem.W.codeIn K cd21 "_law_at" = true) (k21 : PySem.W.keepIn K (.ref f21) = true)
    (a22 : PySem.W.nsIn K mainGlobals "_law_power" = some (some (.ref f22))) (l22 : K.lookup f22 = some ⟨oc22, od22, .func (PySem.W.fnOf "_law_power" "_law_power" (defArgs s_law_power) (defBody s_law_power) (defScope s_law_power) .none kV22 dc22 pm22 an22 cd22 ct22), sl22⟩) (c22 : PySem.W.codeIn K cd22 "_law_power" = true) (k22 : PySem.W.keepIn K (.ref f22) = true)
    (a23 : PySem.W.nsIn K mainGlobals "law" = some (some (.ref f23))) (l23 : K.lookup f23 = some ⟨oc23, od23, .func (PySem.W.fnOf "law" "law" (defArgs slaw) (defBody slaw) (defScope slaw) .none kV23 dc23 pm23 an23 cd23 ct23), sl23⟩) (c23 : PySem.W.codeIn K cd23 "law" = true) (k23 : PySem.W.keepIn K (.ref f23) = true)
    (i_PRIME : PySem.W.nsIn K mainGlobals "PRIME" = some (some (.int 2305843009213693951 t_PRIME)))
    (i_MOST_ROOTS : PySem.W.nsIn K mainGlobals "MOST_ROOTS" = some (some (.int 60 t_MOST_ROOTS)))
    (z_len : PySem.W.nsIn K mainGlobals "len" = some none)
    (z_int : PySem.W.nsIn K mainGlobals "int" = some none)
    (z_range : PySem.W.nsIn K mainGlobals "range" = some none)
    (z_tuple : PySem.W.nsIn K mainGlobals "tuple" = some none)
    (z_list : PySem.W.nsIn K mainGlobals "list" = some none)
    (z_isinstance : PySem.W.nsIn K mainGlobals "isinstance" = some none)
    (z_zip : PySem.W.nsIn K mainGlobals "zip" = some none)
    (z_type : PySem.W.nsIn K mainGlobals "type" = some none)
    (z_str : PySem.W.nsIn K mainGlobals "str" = some none)
    (z_bool : PySem.W.nsIn K mainGlobals "bool" = some none)
    (z_all : PySem.W.nsIn K mainGlobals "all" = some none)
    (z_min : PySem.W.nsIn K mainGlobals "min" = some none)
    (z_max : PySem.W.nsIn K mainGlobals "max" = some none)
    (z_enumerate : PySem.W.nsIn K mainGlobals "enumerate" = some none)
    (z_reversed : PySem.W.nsIn K mainGlobals "reversed" = some none)
    (z_sorted : PySem.W.nsIn K mainGlobals "sorted" = some none)
    : ∃ fd : FuncData, (∀ (s : Shared) (v : Value), BindsTo s fd ⟨[v], []⟩ [("script", v)]) ∧ ∀ base : Heap, K.In base → base.Ns mainGlobals mg → FnOk l.prog w K mg base CX0 6 fa fd ["script"] (spLaw K) := by
  have e := hfa.symm.trans (PySem.W.mg_of X G a23)
  cases e
  have D_is_between := dfn_mk (st := sis_between) (ps := pis_between) X G a1 l1 c1 k1 fun _ _ _ _ _ _ us hl => match us, hl with | [_, _, _], _ => rfl
  have D_is_number := dfn_mk (st := sis_number) (ps := pis_number) X G a2 l2 c2 k2 fun _ _ _ _ _ _ us hl => match us, hl with | [_], _ => rfl
  have D_is_numbers := dfn_mk (st := sis_numbers) (ps := pis_numbers) X G a3 l3 c3 k3 fun _ _ _ _ _ _ us hl => match us, hl with | [_, _], _ => rfl
  have D_is_poly := dfn_mk (st := sis_poly) (ps := pis_poly) X G a4 l4 c4 k4 fun _ _ _ _ _ _ us hl => match us, hl with | [_], _ => rfl
  have D_inverse := dfn_mk (st := sinverse) (ps := pinverse) X G a5 l5 c5 k5 fun _ _ _ _ _ _ us hl => match us, hl with | [_], _ => rfl
  have D_trimmed := dfn_mk (st := strimmed) (ps := ptrimmed) X G a6 l6 c6 k6 fun _ _ _ _ _ _ us hl => match us, hl with | [_], _ => rfl
  have D_value_of := dfn_mk (st := svalue_of) (ps := pvalue_of) X G a7 l7 c7 k7 fun _ _ _ _ _ _ us hl => match us, hl with | [_, _], _ => rfl
  have D_poly_scaled := dfn_mk (st := spoly_scaled) (ps := ppoly_scaled) X G a8 l8 c8 k8 fun _ _ _ _ _ _ us hl => match us, hl with | [_, _], _ => rfl
  have D_poly_divided := dfn_mk (st := spoly_divided) (ps := ppoly_divided) X G a9 l9 c9 k9 fun _ _ _ _ _ _ us hl => match us, hl with | [_, _], _ => rfl
  have D_monic := dfn_mk (st := smonic) (ps := pmonic) X G a10 l10 c10 k10 fun _ _ _ _ _ _ us hl => match us, hl with | [_], _ => rfl
  have D_divisor := dfn_mk (st := sdivisor) (ps := pdivisor) X G a11 l11 c11 k11 fun _ _ _ _ _ _ us hl => match us, hl with | [_, _], _ => rfl
  have D_poly_with := dfn_mk (st := spoly_with) (ps := ppoly_with) X G a12 l12 c12 k12 fun _ _ _ _ _ _ us hl => match us, hl with | [_], _ => rfl
  have D_value_at := dfn_mk (st := svalue_at) (ps := pvalue_at) X G a13 l13 c13 k13 fun _ _ _ _ _ _ us hl => match us, hl with | [_, _], _ => rfl
  have D_by_roots := dfn_mk (st := sby_roots) (ps := pby_roots) X G a14 l14 c14 k14 fun _ _ _ _ _ _ us hl => match us, hl with | [_], _ => rfl
  have D_common := dfn_mk (st := scommon) (ps := pcommon) X G a15 l15 c15 k15 fun _ _ _ _ _ _ us hl => match us, hl with | [_, _], _ => rfl
  have D__law_prime := dfn_mk (st := s_law_prime) (ps := p_law_prime) X G a16 l16 c16 k16 fun _ _ _ _ _ _ us hl => match us, hl with | [], _ => rfl
  have D__law_taken := dfn_mk (st := s_law_taken) (ps := p_law_taken) X G a17 l17 c17 k17 fun _ _ _ _ _ _ us hl => match us, hl with | [_, _], _ => rfl
  have D__law_pick := dfn_mk (st := s_law_pick) (ps := p_law_pick) X G a18 l18 c18 k18 fun _ _ _ _ _ _ us hl => match us, hl with | [_, _], _ => rfl
  have D__law_alike := dfn_mk (st := s_law_alike) (ps := p_law_alike) X G a19 l19 c19 k19 fun _ _ _ _ _ _ us hl => match us, hl with | [_, _], _ => rfl
  have D__law_from_roots := dfn_mk (st := s_law_from_roots) (ps := p_law_from_roots) X G a20 l20 c20 k20 fun _ _ _ _ _ _ us hl => match us, hl with | [_], _ => rfl
  have D__law_at := dfn_mk (st := s_law_at) (ps := p_law_at) X G a21 l21 c21 k21 fun _ _ _ _ _ _ us hl => match us, hl with | [_, _], _ => rfl
  have D__law_power := dfn_mk (st := s_law_power) (ps := p_law_power) X G a22 l22 c22 k22 fun _ _ _ _ _ _ us hl => match us, hl with | [_, _], _ => rfl
  have D_law := dfn_mk (st := slaw) (ps := plaw) X G a23 l23 c23 k23 fun _ _ _ _ _ _ us hl => match us, hl with | [_], _ => rfl
  have B : Bi mg := ⟨PySem.W.mg_none_of X G z_len, PySem.W.mg_none_of X G z_int, PySem.W.mg_none_of X G z_range, PySem.W.mg_none_of X G z_tuple, PySem.W.mg_none_of X G z_list, PySem.W.mg_none_of X G z_isinstance, PySem.W.mg_none_of X G z_zip, PySem.W.mg_none_of X G z_type, PySem.W.mg_none_of X G z_str, PySem.W.mg_none_of X G z_bool, PySem.W.mg_none_of X G z_all, PySem.W.mg_none_of X G z_min, PySem.W.mg_none_of X G z_max⟩
  have T : TP mg := ⟨⟨_, PySem.W.mg_of X G i_PRIME⟩, ⟨_, PySem.W.mg_of X G i_MOST_ROOTS⟩, PySem.W.mg_none_of X G z_enumerate, PySem.W.mg_none_of X G z_reversed, PySem.W.mg_none_of X G z_sorted⟩
  exact ⟨PySem.W.fnOf "law" "law" (defArgs slaw) (defBody slaw) (defScope slaw) .none kV23 dc23 pm23 an23 cd23 ct23, fun s v => .of_eq rfl, fun base _ _ => ok_law D_law B T D__law_prime (ok_pr D__law_prime) D__law_taken (ok_taken D__law_taken B) D__law_pick (ok_pick D__law_pick B D__law_taken) D_by_roots (ok_by D_by_roots B T D_is_numbers D_is_number D_is_between D_poly_with) D__law_from_roots (ok_fr D__law_from_roots B D__law_prime) D__law_alike (ok_alike D__law_alike B 2 (by decide)) D_value_at (ok_vat D_value_at B T D_is_poly D_is_numbers D_is_number D_is_between D_value_of) D__law_at (ok_at D__law_at B D__law_prime) D_common (ok_com D_common B T D_is_poly D_is_numbers D_is_number D_is_between D_inverse D_poly_scaled D_trimmed D_poly_divided D_monic D_divisor) D__law_power (ok_pw D__law_power B D__law_prime)⟩
end K06
open PySem PySem.W PyProof.Rows
set_option maxRecDepth 100000 in
set_option maxHeartbeats 0 in
theorem PySem.Challenge.cw_meetstores_k06_whole_polynomials_holds : PySem.Challenge.rw_meetstores_k06_whole_polynomials.Holds := by
  w_on; o_law; k_head; (case hw => w_witness2)
  k_fill
  refine L2.walk_of (l := PySem.Challenge.rw_meetstores_k06_whole_polynomials) (n := 63) (k := 6) (x := "script") (CX := fun _ => L2.CX0) (sp := fun w => K06.spLaw _) rfl (by decide) rfl ⟨rfl, by decide, by decide⟩ (fun w h Y => PySem.W.kIn_of Y) ?F (fun _ _ a ns hl _ hS => ⟨a, ns, rfl, hS, hl, fun _ => rfl⟩) (fun _ _ _ _ _ h => h)
  case F =>
    intro w mg fa h KX G hmg
    refine' K06.all_mk KX G hmg ?a1 ?l1 ?c1 ?k1 ?a2 ?l2 ?c2 ?k2 ?a3 ?l3 ?c3 ?k3 ?a4 ?l4 ?c4 ?k4 ?a5 ?l5 ?c5 ?k5 ?a6 ?l6 ?c6 ?k6 ?a7 ?l7 ?c7 ?k7 ?a8 ?l8 ?c8 ?k8 ?a9 ?l9 ?c9 ?k9 ?a10 ?l10 ?c10 ?k10 ?a11 ?l11 ?c11 ?k11 ?a12 ?l12 ?c12 ?k12 ?a13 ?l13 ?c13 ?k13 ?a14 ?l14 ?c14 ?k14 ?a15 ?l15 ?c15 ?k15 ?a16 ?l16 ?c16 ?k16 ?a17 ?l17 ?c17 ?k17 ?a18 ?l18 ?c18 ?k18 ?a19 ?l19 ?c19 ?k19 ?a20 ?l20 ?c20 ?k20 ?a21 ?l21 ?c21 ?k21 ?a22 ?l22 ?c22 ?k22 ?a23 ?l23 ?c23 ?k23 ?i_PRIME ?i_MOST_ROOTS ?z_len ?z_int ?z_range ?z_tuple ?z_list ?z_isinstance ?z_zip ?z_type ?z_str ?z_bool ?z_all ?z_min ?z_max ?z_enumerate ?z_reversed ?z_sorted
    (case a1 => k_is)
    (case l1 => k_is)
    (case c1 => k_is)
    (case k1 => k_is)
    (case a2 => k_is)
    (case l2 => k_is)
    (case c2 => k_is)
    (case k2 => k_is)
    (case a3 => k_is)
    (case l3 => k_is)
    (case c3 => k_is)
    (case k3 => k_is)
    (case a4 => k_is)
    (case l4 => k_is)
    (case c4 => k_is)
    (case k4 => k_is)
    (case a5 => k_is)
    (case l5 => k_is)
    (case c5 => k_is)
    (case k5 => k_is)
    (case a6 => k_is)
    (case l6 => k_is)
    (case c6 => k_is)
    (case k6 => k_is)
    (case a7 => k_is)
    (case l7 => k_is)
    (case c7 => k_is)
    (case k7 => k_is)
    (case a8 => k_is)
    (case l8 => k_is)
    (case c8 => k_is)
    (case k8 => k_is)
    (case a9 => k_is)
    (case l9 => k_is)
    (case c9 => k_is)
    (case k9 => k_is)
    (case a10 => k_is)
    (case l10 => k_is)
    (case c10 => k_is)
    (case k10 => k_is)
    (case a11 => k_is)
    (case l11 => k_is)
    (case c11 => k_is)
    (case k11 => k_is)
    (case a12 => k_is)
    (case l12 => k_is)
    (case c12 => k_is)
    (case k12 => k_is)
    (case a13 => k_is)
    (case l13 => k_is)
    (case c13 => k_is)
    (case k13 => k_is)
    (case a14 => k_is)
    (case l14 => k_is)
    (case c14 => k_is)
    (case k14 => k_is)
    (case a15 => k_is)
    (case l15 => k_is)
    (case c15 => k_is)
    (case k15 => k_is)
    (case a16 => k_is)
    (case l16 => k_is)
    (case c16 => k_is)
    (case k16 => k_is)
    (case a17 => k_is)
    (case l17 => k_is)
    (case c17 => k_is)
    (case k17 => k_is)
    (case a18 => k_is)
    (case l18 => k_is)
    (case c18 => k_is)
    (case k18 => k_is)
    (case a19 => k_is)
    (case l19 => k_is)
    (case c19 => k_is)
    (case k19 => k_is)
    (case a20 => k_is)
    (case l20 => k_is)
    (case c20 => k_is)
    (case k20 => k_is)
    (case a21 => k_is)
    (case l21 => k_is)
    (case c21 => k_is)
    (case k21 => k_is)
    (case a22 => k_is)
    (case l22 => k_is)
    (case c22 => k_is)
    (case k22 => k_is)
    (case a23 => k_is)
    (case l23 => k_is)
    (case c23 => k_is)
    (case k23 => k_is)
    (case i_PRIME => k_is)
    (case i_MOST_ROOTS => k_is)
    (case z_len => k_is)
    (case z_int => k_is)
    (case z_range => k_is)
    (case z_tuple => k_is)
    (case z_list => k_is)
    (case z_isinstance => k_is)
    (case z_zip => k_is)
    (case z_type => k_is)
    (case z_str => k_is)
    (case z_bool => k_is)
    (case z_all => k_is)
    (case z_min => k_is)
    (case z_max => k_is)
    (case z_enumerate => k_is)
    (case z_reversed => k_is)
    (case z_sorted => k_is)
