/-
  Plain mathematics of layer 3 (root): the root of a number bit by bit, and that it is the root; the sum of squares; a part of a length. No condition; no program.
-/
import Derived.Test.YtlddkbimkbdfpaaFixMath
import Derived.Laws.BitsAllLaws
namespace Go.Proofs.Ytlddkbimkbdfpaa
set_option linter.unusedVariables false
open Go.RowKit

/-- The root of x, its last k bits still to be found. -/
def rootN (x : Int) : Nat → Int → Int
  | 0, r => r
  | k + 1, r => if (r + p2 k) * (r + p2 k) ≤ x then rootN x k (r + p2 k) else rootN x k r
def rootF (x : Int) : Int := rootN x 32 0

theorem rootN_spec (x : Int) : ∀ (k : Nat) (r : Int), 0 ≤ r → r * r ≤ x → x < (r + p2 k) * (r + p2 k) → r ≤ rootN x k r ∧ rootN x k r * rootN x k r ≤ x ∧ x < (rootN x k r + 1) * (rootN x k r + 1)
  | 0, r, h0, h1, h2 => ⟨Int.le_refl _, h1, h2⟩
  | k + 1, r, h0, h1, h2 => by
    have hp := p2_pos k
    rw [p2_succ] at h2
    rw [rootN]
    split
    · rename_i h
      have e : r + 2 * p2 k = r + p2 k + p2 k := by omega
      rw [e] at h2
      have ih := rootN_spec x k (r + p2 k) (by omega) h h2
      exact ⟨by omega, ih.2⟩
    · rename_i h
      exact rootN_spec x k r h0 h1 (by omega)

theorem p2_32 : p2 32 = 4294967296 := by decide
theorem rootF_spec {x : Int} (h1 : 0 ≤ x) (h2 : x ≤ 18446744073709551615) : 0 ≤ rootF x ∧ rootF x * rootF x ≤ x ∧ x < (rootF x + 1) * (rootF x + 1) := by
  have := rootN_spec x 32 0 (by omega) (by omega) (by rw [p2_32]; omega)
  exact this

theorem sq_lt {a b : Int} (ha : 0 ≤ a) (h : a < b) : a * a < b * b := by
  have h1 : a * a ≤ a * b := Int.mul_le_mul_of_nonneg_left (by omega) ha
  have h2 : a * b < b * b := Int.mul_lt_mul_of_pos_right h (by omega)
  omega
theorem sq_le {a b : Int} (ha : 0 ≤ a) (h : a ≤ b) : a * a ≤ b * b := by
  rcases Int.lt_or_eq_of_le h with h | rfl
  · exact Int.le_of_lt (sq_lt ha h)
  · exact Int.le_refl _
theorem le_of_sq {a b : Int} (hb : 0 ≤ b) (h : a * a ≤ b * b) : a ≤ b := by
  rcases Int.lt_or_le b a with h' | h'
  · have := sq_lt hb h'; omega
  · exact h'
theorem lt_of_sq {a b : Int} (hb : 0 ≤ b) (h : a * a < b * b) : a < b := by
  rcases Int.lt_or_le a b with h' | h'
  · exact h'
  · have := sq_le hb h'; omega
/-- There is one root. -/
theorem root_is {x r : Int} (h1 : 0 ≤ x) (h2 : x ≤ 18446744073709551615) (hr : 0 ≤ r) (h3 : r * r ≤ x) (h4 : x < (r + 1) * (r + 1)) : rootF x = r := by
  obtain ⟨a, b, c⟩ := rootF_spec h1 h2
  have : rootF x < r + 1 := lt_of_sq (by omega) (by omega)
  have : r < rootF x + 1 := lt_of_sq (by omega) (by omega)
  omega
theorem rootF_bd {x : Int} (h1 : 0 ≤ x) (h2 : x ≤ 18446744073709551615) : 0 ≤ rootF x ∧ rootF x ≤ 4294967295 := by
  obtain ⟨a, b, c⟩ := rootF_spec h1 h2
  refine ⟨a, ?_⟩
  have : rootF x < 4294967296 := lt_of_sq (by omega) (by omega)
  omega

/-- How many numbers of a list count, and the sum of a family. -/
def sumF (f : Nat → Int) : Nat → Int
  | 0 => 0
  | n + 1 => sumF f n + f n
def heldF (x : Int) : Int := clamp x (-134217728) 134217728
def sqF (x : Int) : Int := heldF x * heldF x
def normF (f : Nat → Int) (n : Nat) : Int := sumF (fun i => sqF (f i)) (min n 512)
theorem heldF_bd (x : Int) : -134217728 ≤ heldF x ∧ heldF x ≤ 134217728 := clamp_bd _ _ _ (by omega)
theorem sq_nn (y : Int) : 0 ≤ y * y := by
  rcases Int.le_total 0 y with h0 | h0
  · exact Int.mul_nonneg h0 h0
  · have := Int.mul_nonneg (a := -y) (b := -y) (by omega) (by omega)
    rw [Int.neg_mul_neg] at this; exact this
theorem sqF_bd (x : Int) : 0 ≤ sqF x ∧ sqF x ≤ 18014398509481984 := by
  have h := heldF_bd x
  unfold sqF
  generalize heldF x = y at *
  refine ⟨sq_nn y, ?_⟩
  rcases Int.le_total 0 y with h0 | h0
  · have := sq_le h0 h.2; omega
  · have := sq_le (a := -y) (b := 134217728) (by omega) (by omega)
    rw [Int.neg_mul_neg] at this; omega
theorem sum_bd {f : Nat → Int} {b : Int} (h : ∀ i, 0 ≤ f i ∧ f i ≤ b) : ∀ n : Nat, 0 ≤ sumF f n ∧ sumF f n ≤ n * b
  | 0 => by simp [sumF]
  | n + 1 => by
    have ih := sum_bd h n
    have := h n
    rw [sumF]
    have e : ((n + 1 : Nat) : Int) * b = n * b + b := by rw [Int.natCast_add, Int.add_mul]; omega
    omega
theorem sqs_bd (f : Nat → Int) {n : Nat} (h : n ≤ 512) : 0 ≤ sumF (fun i => sqF (f i)) n ∧ sumF (fun i => sqF (f i)) n ≤ 9223372036854775808 := by
  have h1 := sum_bd (f := fun i => sqF (f i)) (b := 18014398509481984) (fun i => sqF_bd (f i)) n
  omega
theorem normF_bd (f : Nat → Int) (n : Nat) : 0 ≤ normF f n ∧ normF f n ≤ 9223372036854775808 := sqs_bd f (by omega)
theorem sum_nn {f : Nat → Int} (h : ∀ i, 0 ≤ f i) : ∀ n : Nat, 0 ≤ sumF f n
  | 0 => by simp [sumF]
  | n + 1 => by have := sum_nn h n; have := h n; rw [sumF]; omega
/-- A number is no longer than a list that it is in. -/
theorem sum_ge {f : Nat → Int} (h : ∀ i, 0 ≤ f i) : ∀ {n i : Nat}, i < n → f i ≤ sumF f n
  | n + 1, i, hi => by
    rw [sumF]
    rcases Nat.lt_or_ge i n with h' | h'
    · have := sum_ge h h'; have := h n; omega
    · have e : i = n := by omega
      subst e
      have := sum_nn h i
      omega

/-- A part of a length. -/
def partF (x g n : Int) : Int := if n = 0 ∨ 4611686018427387904 < n then 0 else (x * clamp g (-1073741824) 1073741824).tdiv n
end Go.Proofs.Ytlddkbimkbdfpaa
