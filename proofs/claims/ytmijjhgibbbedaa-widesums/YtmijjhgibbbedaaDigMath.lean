/-
  Mathematics of eight digits to the base 65536: how the document's own sums, opposites, products, quotients and orders go digit by digit, modulo 2 to the 128th. No program in it.
-/
import Derived.Test.YtmijjhgibbbedaaWideMath
namespace Go.Proofs.Ytmijjhgibbbedaa
set_option linter.unusedVariables false
open Go.RowKit

theorem p2_16 : p2 16 = 65536 := by simp [p2]
theorem p2_0 : p2 0 = 1 := by simp [p2]
theorem dg_0 (n : Int) : dg n 0 = n % 65536 := by simp [dg, p2]
theorem dg_1 (n : Int) : dg n 1 = n / 65536 % 65536 := by simp [dg, p2]
theorem dg_2 (n : Int) : dg n 2 = n / 4294967296 % 65536 := by simp [dg, p2]
theorem dg_3 (n : Int) : dg n 3 = n / 281474976710656 % 65536 := by simp [dg, p2]
theorem dg_4 (n : Int) : dg n 4 = n / 18446744073709551616 % 65536 := by simp [dg, p2]
theorem dg_5 (n : Int) : dg n 5 = n / 1208925819614629174706176 % 65536 := by simp [dg, p2]
theorem dg_6 (n : Int) : dg n 6 = n / 79228162514264337593543950336 % 65536 := by simp [dg, p2]
theorem dg_7 (n : Int) : dg n 7 = n / 5192296858534827628530496329220096 % 65536 := by simp [dg, p2]

theorem dg_same (a k : Int) {j : Nat} (hj : j < 8) : dg (a + 340282366920938463463374607431768211456 * k) j = dg a j := by
  match j, hj with
  | 0, _ => rw [dg_0, dg_0]; omega
  | 1, _ => rw [dg_1, dg_1]; omega
  | 2, _ => rw [dg_2, dg_2]; omega
  | 3, _ => rw [dg_3, dg_3]; omega
  | 4, _ => rw [dg_4, dg_4]; omega
  | 5, _ => rw [dg_5, dg_5]; omega
  | 6, _ => rw [dg_6, dg_6]; omega
  | 7, _ => rw [dg_7, dg_7]; omega
theorem dg_words (a : Int) {j : Nat} (hj : j < 8) : dg (hiW a * 18446744073709551616 + loW a) j = dg a j := by
  obtain ⟨k, hk⟩ := words_of a
  rw [hk, dg_same a k hj]

/-- Eight numbers are the digits of a number. -/
def Digs (n a0 a1 a2 a3 a4 a5 a6 a7 : Int) : Prop := a0 = dg n 0 ∧ a1 = dg n 1 ∧ a2 = dg n 2 ∧ a3 = dg n 3 ∧ a4 = dg n 4 ∧ a5 = dg n 5 ∧ a6 = dg n 6 ∧ a7 = dg n 7
theorem put_digs {h l H : Int} (h3 : 0 ≤ l) (h4 : l ≤ 18446744073709551615) (hH : H = h % 18446744073709551616) :
    Digs (h * 18446744073709551616 + l) (l % 65536) (l / 65536 % 65536) (l / 65536 / 65536 % 65536) (l / 65536 / 65536 / 65536 % 65536) (H % 65536) (H / 65536 % 65536) (H / 65536 / 65536 % 65536) (H / 65536 / 65536 / 65536 % 65536) := by
  subst hH
  refine ⟨?_, ?_, ?_, ?_, ?_, ?_, ?_, ?_⟩
  · rw [dg_0]; omega
  · rw [dg_1]; omega
  · rw [dg_2]; omega
  · rw [dg_3]; omega
  · rw [dg_4]; omega
  · rw [dg_5]; omega
  · rw [dg_6]; omega
  · rw [dg_7]; omega

/-- Sums: the carry into a digit. -/
def car (a b : Int) (j : Nat) : Int := (a % p2 (16 * j) + b % p2 (16 * j)) / p2 (16 * j)
theorem split_mod (a q : Int) (hq : 0 < q) : a % (q * 65536) = a % q + q * (a / q % 65536) := by
  have h1 := Int.mul_ediv_add_emod a q
  have h2 := Int.mul_ediv_add_emod (a / q) 65536
  have h3 := Int.mul_ediv_add_emod a (q * 65536)
  rw [div_div a (by omega)] at h3
  have h4 : q * 65536 * (a / q / 65536) = q * (65536 * (a / q / 65536)) := Int.mul_assoc _ _ _
  have h5 : q * (a / q) = q * (65536 * (a / q / 65536)) + q * (a / q % 65536) := by rw [← Int.mul_add, h2]
  omega
theorem car_0 (a b : Int) : car a b 0 = 0 := by simp [car, p2]
theorem car_s (a b : Int) (j : Nat) : (dg a j + dg b j + car a b j) / 65536 = car a b (j + 1) := by
  unfold car dg
  have hq := p2_pos (16 * j)
  rw [show 16 * (j + 1) = 16 * j + 16 by omega, p2_add, p2_16]
  generalize p2 (16 * j) = q at *
  rw [split_mod a q (by omega), split_mod b q (by omega), div_div _ (by omega)]
  have e : a % q + q * (a / q % 65536) + (b % q + q * (b / q % 65536)) = a % q + b % q + q * (a / q % 65536 + b / q % 65536) := by rw [Int.mul_add]; omega
  rw [e, Int.add_mul_ediv_left _ _ (by omega)]
  congr 1; omega
theorem dg_add (a b : Int) (j : Nat) : (dg a j + dg b j + car a b j) % 65536 = dg (a + b) j := by
  unfold car dg
  have hq := p2_pos (16 * j)
  generalize p2 (16 * j) = q at *
  have h1 := Int.mul_ediv_add_emod a q
  have h2 := Int.mul_ediv_add_emod b q
  have e : a + b = a % q + b % q + q * (a / q + b / q) := by rw [Int.mul_add]; omega
  rw [e, Int.add_mul_ediv_left _ _ (by omega)]
  omega
theorem add_digs {a b a0 a1 a2 a3 a4 a5 a6 a7 b0 b1 b2 b3 b4 b5 b6 b7 : Int} (ha : Digs a a0 a1 a2 a3 a4 a5 a6 a7) (hb : Digs b b0 b1 b2 b3 b4 b5 b6 b7) :
    Digs (a + b) ((a0 + b0) % 65536) ((a1 + b1 + (a0 + b0) / 65536) % 65536) ((a2 + b2 + (a1 + b1 + (a0 + b0) / 65536) / 65536) % 65536)
      ((a3 + b3 + (a2 + b2 + (a1 + b1 + (a0 + b0) / 65536) / 65536) / 65536) % 65536)
      ((a4 + b4 + (a3 + b3 + (a2 + b2 + (a1 + b1 + (a0 + b0) / 65536) / 65536) / 65536) / 65536) % 65536)
      ((a5 + b5 + (a4 + b4 + (a3 + b3 + (a2 + b2 + (a1 + b1 + (a0 + b0) / 65536) / 65536) / 65536) / 65536) / 65536) % 65536)
      ((a6 + b6 + (a5 + b5 + (a4 + b4 + (a3 + b3 + (a2 + b2 + (a1 + b1 + (a0 + b0) / 65536) / 65536) / 65536) / 65536) / 65536) / 65536) % 65536)
      ((a7 + b7 + (a6 + b6 + (a5 + b5 + (a4 + b4 + (a3 + b3 + (a2 + b2 + (a1 + b1 + (a0 + b0) / 65536) / 65536) / 65536) / 65536) / 65536) / 65536) / 65536) % 65536) := by
  obtain ⟨rfl, rfl, rfl, rfl, rfl, rfl, rfl, rfl⟩ := ha
  obtain ⟨rfl, rfl, rfl, rfl, rfl, rfl, rfl, rfl⟩ := hb
  have k1 := car_s a b 0
  have d0 := dg_add a b 0
  rw [car_0, Int.add_zero] at k1 d0
  rw [k1, car_s a b 1, car_s a b 2, car_s a b 3, car_s a b 4, car_s a b 5, car_s a b 6]
  exact ⟨d0, dg_add a b 1, dg_add a b 2, dg_add a b 3, dg_add a b 4, dg_add a b 5, dg_add a b 6, dg_add a b 7⟩
theorem dg_not (a : Int) (j : Nat) : 65535 - dg a j = dg (-1 - a) j := by
  unfold dg
  have hq := p2_pos (16 * j)
  generalize p2 (16 * j) = q at *
  have h1 := Int.mul_ediv_add_emod a q
  have r0 := Int.emod_nonneg a (show q ≠ 0 by omega)
  have r1 := Int.emod_lt_of_pos a (show 0 < q by omega)
  have e : -1 - a = (q - 1 - a % q) + q * (-1 - a / q) := by rw [Int.mul_sub]; omega
  have e3 : (q - 1 - a % q) / q = 0 := Int.ediv_eq_zero_of_lt (by omega) (by omega)
  rw [e, Int.add_mul_ediv_left _ _ (by omega), e3]
  omega
theorem not_digs (a : Int) : Digs (-1 - a) (65535 - dg a 0) (65535 - dg a 1) (65535 - dg a 2) (65535 - dg a 3) (65535 - dg a 4) (65535 - dg a 5) (65535 - dg a 6) (65535 - dg a 7) :=
  ⟨dg_not a 0, dg_not a 1, dg_not a 2, dg_not a 3, dg_not a 4, dg_not a 5, dg_not a 6, dg_not a 7⟩
theorem small_digs {x : Int} (h1 : 0 ≤ x) (h2 : x ≤ 65535) : Digs x x 0 0 0 0 0 0 0 := by
  refine ⟨?_, ?_, ?_, ?_, ?_, ?_, ?_, ?_⟩
  · rw [dg_0]; omega
  · rw [dg_1]; omega
  · rw [dg_2]; omega
  · rw [dg_3]; omega
  · rw [dg_4]; omega
  · rw [dg_5]; omega
  · rw [dg_6]; omega
  · rw [dg_7]; omega
theorem own_digs (a : Int) : Digs a (dg a 0) (dg a 1) (dg a 2) (dg a 3) (dg a 4) (dg a 5) (dg a 6) (dg a 7) := ⟨rfl, rfl, rfl, rfl, rfl, rfl, rfl, rfl⟩

/-- Bits. -/
theorem bit_dg (a : Int) (j r : Nat) (hr : r < 16) : dg a j / p2 r % 2 = a / p2 (16 * j + r) % 2 := by
  unfold dg
  rw [p2_add, div_div _ (by have := p2_pos (16 * j); omega)]
  generalize a / p2 (16 * j) = X
  have hp := p2_pos r
  have hQ : p2 r * (p2 (15 - r) * 2) = 65536 := by
    have : p2 (15 - r) * 2 = p2 (15 - r + 1) := by rw [p2_succ]; omega
    rw [this, ← p2_add, show r + (15 - r + 1) = 16 by omega, p2_16]
  generalize p2 r = p at *
  generalize p2 (15 - r) = q at *
  have h1 := Int.mul_ediv_add_emod X 65536
  have e : X = X % 65536 + p * (q * 2 * (X / 65536)) := by
    have : p * (q * 2 * (X / 65536)) = 65536 * (X / 65536) := by rw [← hQ, ← Int.mul_assoc]
    omega
  have e2 : X / p = X % 65536 / p + q * 2 * (X / 65536) := by
    conv => lhs; rw [e]
    rw [Int.add_mul_ediv_left _ _ (by omega)]
  rw [e2, Int.mul_assoc, Int.mul_left_comm]
  omega
theorem bit_far {a : Int} (h1 : -170141183460469231731687303715884105728 ≤ a) (h2 : a < 170141183460469231731687303715884105728) {n : Nat} (hn : 127 ≤ n) : a / p2 n = a / p2 127 := by
  have e : p2 n = p2 127 * p2 (n - 127) := by rw [← p2_add, show 127 + (n - 127) = n by omega]
  have e1 : p2 127 = 170141183460469231731687303715884105728 := by simp [p2]
  have hp := p2_pos (n - 127)
  rw [e, div_div _ (by omega), e1]
  by_cases h : a < 0
  · have : a / 170141183460469231731687303715884105728 = -1 := by omega
    rw [this]
    have := Int.mul_ediv_add_emod (-1) (p2 (n - 127))
    have := Int.emod_nonneg (-1) (show p2 (n - 127) ≠ 0 by omega)
    have := Int.emod_lt_of_pos (-1) (show 0 < p2 (n - 127) by omega)
    rw [show (-1 : Int) = (p2 (n - 127) - 1) + p2 (n - 127) * (-1) by omega, Int.add_mul_ediv_left _ _ (by omega), Int.ediv_eq_zero_of_lt (by omega) (by omega)]
    omega
  · have : a / 170141183460469231731687303715884105728 = 0 := by omega
    rw [this, Int.zero_ediv]

/-- Quotients by powers of two, bit by bit from above: the digits when the bits from m on are there. -/
def outF (q : Int) (m j : Nat) : Int := q / p2 (max m (16 * j)) % p2 (16 * (j + 1) - max m (16 * j))
theorem out_end (q : Int) (j : Nat) : outF q 0 j = dg q j := by
  unfold outF dg
  rw [show max 0 (16 * j) = 16 * j by omega, show 16 * (j + 1) - 16 * j = 16 by omega, p2_16]
theorem out_start (q : Int) {j : Nat} (hj : j < 8) : outF q 128 j = 0 := by
  unfold outF
  rw [show 16 * (j + 1) - max 128 (16 * j) = 0 by omega, p2_0]; omega
theorem out_step (q : Int) (m : Nat) : outF q (m + 1) (m / 16) * 2 + q / p2 m % 2 = outF q m (m / 16) := by
  unfold outF
  rw [show max (m + 1) (16 * (m / 16)) = m + 1 by omega, show max m (16 * (m / 16)) = m by omega, show 16 * (m / 16 + 1) - m = (16 * (m / 16 + 1) - (m + 1)) + 1 by omega, p2_succ, p2_succ]
  have hp := p2_pos m
  have hT := p2_pos (16 * (m / 16 + 1) - (m + 1))
  generalize p2 (16 * (m / 16 + 1) - (m + 1)) = T at *
  rw [Int.mul_comm 2 (p2 m), div_div _ (by omega)]
  generalize q / p2 m = X
  have h1 := Int.mul_ediv_add_emod X (2 * T)
  have h2 := Int.mul_ediv_add_emod (X / 2) T
  rw [div_div _ (by omega)] at h1
  have h3 : 2 * T * (X / 2 / T) = 2 * (T * (X / 2 / T)) := Int.mul_assoc _ _ _
  omega
theorem out_else (q : Int) {m j : Nat} (h : j ≠ m / 16) : outF q (m + 1) j = outF q m j := by
  unfold outF
  by_cases hj : m < 16 * j
  · rw [show max (m + 1) (16 * j) = max m (16 * j) by omega]
  · rw [show 16 * (j + 1) - max (m + 1) (16 * j) = 0 by omega, show 16 * (j + 1) - max m (16 * j) = 0 by omega, p2_0]; omega
theorem out_bd (q : Int) (m j : Nat) : 0 ≤ outF q m j ∧ outF q m j ≤ 65535 := by
  unfold outF
  have h1 := p2_pos (16 * (j + 1) - max m (16 * j))
  have h2 : p2 (16 * (j + 1) - max m (16 * j)) ≤ p2 16 := p2_mono (by omega)
  rw [p2_16] at h2
  have := Int.emod_nonneg (q / p2 (max m (16 * j))) (show p2 (16 * (j + 1) - max m (16 * j)) ≠ 0 by omega)
  have := Int.emod_lt_of_pos (q / p2 (max m (16 * j))) (show 0 < p2 (16 * (j + 1) - max m (16 * j)) by omega)
  omega

/-- Which one is less. -/
theorem minus_is {a : Int} (h1 : -170141183460469231731687303715884105728 ≤ a) (h2 : a < 170141183460469231731687303715884105728) : 32768 ≤ dg a 7 ↔ a < 0 := by rw [dg_7]; omega
theorem top_same {a b : Int} {j : Nat} (hs : a / p2 128 = b / p2 128) (hj : j < 8) (h : ∀ i, j < i → i < 8 → dg a i = dg b i) : a / p2 (16 * (j + 1)) = b / p2 (16 * (j + 1)) := by
  have step : ∀ d, d ≤ 7 - j → a / p2 (16 * (8 - d)) = b / p2 (16 * (8 - d)) := by
    intro d
    induction d with
    | zero => intro _; exact hs
    | succ d ih =>
      intro hd
      have := ih (by omega)
      have hg := h (7 - d) (by omega) (by omega)
      unfold dg at hg
      rw [show 16 * (8 - d) = 16 * (7 - d) + 16 by omega, p2_add, p2_16, div_div _ (by have := p2_pos (16 * (7 - d)); omega), div_div _ (by have := p2_pos (16 * (7 - d)); omega)] at this
      rw [show 16 * (8 - (d + 1)) = 16 * (7 - d) by omega]
      omega
  have := step (7 - j) (by omega)
  rw [show 8 - (7 - j) = j + 1 by omega] at this
  exact this
theorem less_at {a b : Int} {j : Nat} (hs : a / p2 128 = b / p2 128) (hj : j < 8) (h : ∀ i, j < i → i < 8 → dg a i = dg b i) (hne : dg a j ≠ dg b j) : dg a j < dg b j ↔ a < b := by
  have ht := top_same hs hj h
  unfold dg at *
  rw [show 16 * (j + 1) = 16 * j + 16 by omega, p2_add, p2_16, div_div _ (by have := p2_pos (16 * j); omega), div_div _ (by have := p2_pos (16 * j); omega)] at ht
  have hp := p2_pos (16 * j)
  generalize p2 (16 * j) = p at *
  have h1 := Int.mul_ediv_add_emod a p
  have h2 := Int.mul_ediv_add_emod b p
  have a0 := Int.emod_nonneg a (show p ≠ 0 by omega)
  have a1 := Int.emod_lt_of_pos a (show 0 < p by omega)
  have b0 := Int.emod_nonneg b (show p ≠ 0 by omega)
  have b1 := Int.emod_lt_of_pos b (show 0 < p by omega)
  have hX : a / p % 65536 < b / p % 65536 ↔ a / p < b / p := by omega
  rw [hX]
  constructor
  · intro hlt
    have : p * (a / p + 1) ≤ p * (b / p) := Int.mul_le_mul_of_nonneg_left (by omega) (by omega)
    rw [Int.mul_add, Int.mul_one] at this
    omega
  · intro hlt
    by_cases hc : a / p < b / p
    · exact hc
    · exfalso
      have hne' : b / p < a / p := by omega
      have : p * (b / p + 1) ≤ p * (a / p) := Int.mul_le_mul_of_nonneg_left (by omega) (by omega)
      rw [Int.mul_add, Int.mul_one] at this
      omega
theorem less_none {a b : Int} (hs : a / p2 128 = b / p2 128) (h : ∀ i, i < 8 → dg a i = dg b i) : a = b := by
  have ht := top_same (j := 0) hs (by omega) (fun i _ hi => h i hi)
  have h0 := h 0 (by omega)
  rw [dg_0, dg_0] at h0
  rw [show 16 * (0 + 1) = 16 by omega, p2_16] at ht
  omega
theorem same_sign {a b : Int} (h1 : -170141183460469231731687303715884105728 ≤ a) (h2 : a < 170141183460469231731687303715884105728) (h3 : -170141183460469231731687303715884105728 ≤ b) (h4 : b < 170141183460469231731687303715884105728) (h : a < 0 ↔ b < 0) : a / p2 128 = b / p2 128 := by
  have e1 : p2 128 = 340282366920938463463374607431768211456 := by simp [p2]
  rw [e1]; omega
end Go.Proofs.Ytmijjhgibbbedaa
