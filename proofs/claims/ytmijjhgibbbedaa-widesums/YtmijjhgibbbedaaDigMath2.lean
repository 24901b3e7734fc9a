/-
  Which one of two numbers is less, told by the highest digit in which they differ; and products digit by digit. No program in it.
-/
import Derived.Test.YtmijjhgibbbedaaDigMath
namespace Go.Proofs.Ytmijjhgibbbedaa
set_option linter.unusedVariables false
open Go.RowKit

theorem less_7 {a b : Int} (hs : a / p2 128 = b / p2 128)  (hj : (dg a 7 == dg b 7) = false) : decide (dg a 7 < dg b 7) = decide (a < b) := by
  have := less_at hs (j := 7) (by omega) (fun i h1 h2 => by omega) (by simpa using hj)
  simp only [this]
theorem less_6 {a b : Int} (hs : a / p2 128 = b / p2 128) (e7 : (dg a 7 == dg b 7) = true) (hj : (dg a 6 == dg b 6) = false) : decide (dg a 6 < dg b 6) = decide (a < b) := by
  have := less_at hs (j := 6) (by omega) (fun i h1 h2 => by
    rcases (by omega : i = 7) with rfl
    · simpa using e7) (by simpa using hj)
  simp only [this]
theorem less_5 {a b : Int} (hs : a / p2 128 = b / p2 128) (e7 : (dg a 7 == dg b 7) = true) (e6 : (dg a 6 == dg b 6) = true) (hj : (dg a 5 == dg b 5) = false) : decide (dg a 5 < dg b 5) = decide (a < b) := by
  have := less_at hs (j := 5) (by omega) (fun i h1 h2 => by
    rcases (by omega : i = 7 ∨ i = 6) with rfl | rfl
    · simpa using e7
    · simpa using e6) (by simpa using hj)
  simp only [this]
theorem less_4 {a b : Int} (hs : a / p2 128 = b / p2 128) (e7 : (dg a 7 == dg b 7) = true) (e6 : (dg a 6 == dg b 6) = true) (e5 : (dg a 5 == dg b 5) = true) (hj : (dg a 4 == dg b 4) = false) : decide (dg a 4 < dg b 4) = decide (a < b) := by
  have := less_at hs (j := 4) (by omega) (fun i h1 h2 => by
    rcases (by omega : i = 7 ∨ i = 6 ∨ i = 5) with rfl | rfl | rfl
    · simpa using e7
    · simpa using e6
    · simpa using e5) (by simpa using hj)
  simp only [this]
theorem less_3 {a b : Int} (hs : a / p2 128 = b / p2 128) (e7 : (dg a 7 == dg b 7) = true) (e6 : (dg a 6 == dg b 6) = true) (e5 : (dg a 5 == dg b 5) = true) (e4 : (dg a 4 == dg b 4) = true) (hj : (dg a 3 == dg b 3) = false) : decide (dg a 3 < dg b 3) = decide (a < b) := by
  have := less_at hs (j := 3) (by omega) (fun i h1 h2 => by
    rcases (by omega : i = 7 ∨ i = 6 ∨ i = 5 ∨ i = 4) with rfl | rfl | rfl | rfl
    · simpa using e7
    · simpa using e6
    · simpa using e5
    · simpa using e4) (by simpa using hj)
  simp only [this]
theorem less_2 {a b : Int} (hs : a / p2 128 = b / p2 128) (e7 : (dg a 7 == dg b 7) = true) (e6 : (dg a 6 == dg b 6) = true) (e5 : (dg a 5 == dg b 5) = true) (e4 : (dg a 4 == dg b 4) = true) (e3 : (dg a 3 == dg b 3) = true) (hj : (dg a 2 == dg b 2) = false) : decide (dg a 2 < dg b 2) = decide (a < b) := by
  have := less_at hs (j := 2) (by omega) (fun i h1 h2 => by
    rcases (by omega : i = 7 ∨ i = 6 ∨ i = 5 ∨ i = 4 ∨ i = 3) with rfl | rfl | rfl | rfl | rfl
    · simpa using e7
    · simpa using e6
    · simpa using e5
    · simpa using e4
    · simpa using e3) (by simpa using hj)
  simp only [this]
theorem less_1 {a b : Int} (hs : a / p2 128 = b / p2 128) (e7 : (dg a 7 == dg b 7) = true) (e6 : (dg a 6 == dg b 6) = true) (e5 : (dg a 5 == dg b 5) = true) (e4 : (dg a 4 == dg b 4) = true) (e3 : (dg a 3 == dg b 3) = true) (e2 : (dg a 2 == dg b 2) = true) (hj : (dg a 1 == dg b 1) = false) : decide (dg a 1 < dg b 1) = decide (a < b) := by
  have := less_at hs (j := 1) (by omega) (fun i h1 h2 => by
    rcases (by omega : i = 7 ∨ i = 6 ∨ i = 5 ∨ i = 4 ∨ i = 3 ∨ i = 2) with rfl | rfl | rfl | rfl | rfl | rfl
    · simpa using e7
    · simpa using e6
    · simpa using e5
    · simpa using e4
    · simpa using e3
    · simpa using e2) (by simpa using hj)
  simp only [this]
theorem less_0 {a b : Int} (hs : a / p2 128 = b / p2 128) (e7 : (dg a 7 == dg b 7) = true) (e6 : (dg a 6 == dg b 6) = true) (e5 : (dg a 5 == dg b 5) = true) (e4 : (dg a 4 == dg b 4) = true) (e3 : (dg a 3 == dg b 3) = true) (e2 : (dg a 2 == dg b 2) = true) (e1 : (dg a 1 == dg b 1) = true) (hj : (dg a 0 == dg b 0) = false) : decide (dg a 0 < dg b 0) = decide (a < b) := by
  have := less_at hs (j := 0) (by omega) (fun i h1 h2 => by
    rcases (by omega : i = 7 ∨ i = 6 ∨ i = 5 ∨ i = 4 ∨ i = 3 ∨ i = 2 ∨ i = 1) with rfl | rfl | rfl | rfl | rfl | rfl | rfl
    · simpa using e7
    · simpa using e6
    · simpa using e5
    · simpa using e4
    · simpa using e3
    · simpa using e2
    · simpa using e1) (by simpa using hj)
  simp only [this]
theorem less_no {a b : Int} (hs : a / p2 128 = b / p2 128) (e7 : (dg a 7 == dg b 7) = true) (e6 : (dg a 6 == dg b 6) = true) (e5 : (dg a 5 == dg b 5) = true) (e4 : (dg a 4 == dg b 4) = true) (e3 : (dg a 3 == dg b 3) = true) (e2 : (dg a 2 == dg b 2) = true) (e1 : (dg a 1 == dg b 1) = true) (e0 : (dg a 0 == dg b 0) = true) : false = decide (a < b) := by
  have := less_none hs (fun i h => by
    rcases (by omega : i = 7 ∨ i = 6 ∨ i = 5 ∨ i = 4 ∨ i = 3 ∨ i = 2 ∨ i = 1 ∨ i = 0) with rfl | rfl | rfl | rfl | rfl | rfl | rfl | rfl
    · simpa using e7
    · simpa using e6
    · simpa using e5
    · simpa using e4
    · simpa using e3
    · simpa using e2
    · simpa using e1
    · simpa using e0)
  subst this; simp

/-- A number out of eight digits, up to a place. -/
def valF (O : Nat → Int) : Nat → Int
  | 0 => 0
  | n + 1 => valF O n + O n * p2 (16 * n)
theorem valF_dg (a : Int) (n : Nat) : valF (dg a) n = a % p2 (16 * n) := by
  induction n with
  | zero => simp [valF, p2]
  | succ n ih =>
    rw [valF, ih, show 16 * (n + 1) = 16 * n + 16 by omega, p2_add, p2_16, split_mod _ _ (by have := p2_pos (16 * n); omega)]
    unfold dg; rw [Int.mul_comm]
theorem valF_same {O O' : Nat → Int} {n : Nat} (h : ∀ j, j < n → O j = O' j) : valF O n = valF O' n := by
  induction n with
  | zero => rfl
  | succ n ih => rw [valF, valF, ih (fun j hj => h j (by omega)), h n (by omega)]
/-- One digit written anew. -/
def putF (O : Nat → Int) (k : Nat) (v : Int) (j : Nat) : Int := if j = k then v else O j
theorem valF_put (O : Nat → Int) {k n : Nat} (v : Int) (h : k < n) : valF (putF O k v) n = valF O n + (v - O k) * p2 (16 * k) := by
  induction n with
  | zero => omega
  | succ n ih =>
    rw [valF, valF]
    by_cases hk : k = n
    · subst hk
      rw [valF_same (O := putF O k v) (O' := O) (fun j hj => by unfold putF; rw [if_neg (by omega)])]
      unfold putF; rw [if_pos rfl, Int.sub_mul]; omega
    · rw [ih (by omega)]
      have : putF O k v n = O n := by unfold putF; rw [if_neg (by omega)]
      rw [this]; omega
theorem valF_bd {O : Nat → Int} (h : ∀ j, 0 ≤ O j ∧ O j ≤ 65535) (n : Nat) : 0 ≤ valF O n ∧ valF O n < p2 (16 * n) := by
  induction n with
  | zero => simp [valF, p2]
  | succ n ih =>
    rw [valF, show 16 * (n + 1) = 16 * n + 16 by omega, p2_add, p2_16]
    have hp := p2_pos (16 * n)
    have h1 := Int.mul_nonneg (h n).1 (show 0 ≤ p2 (16 * n) by omega)
    have h2 : O n * p2 (16 * n) ≤ 65535 * p2 (16 * n) := Int.mul_le_mul_of_nonneg_right (h n).2 (by omega)
    omega
/-- Digits are told by the number that they make. -/
theorem dg_valF {O : Nat → Int} (h : ∀ j, 0 ≤ O j ∧ O j ≤ 65535) : ∀ (n k : Nat), k < n → dg (valF O n) k = O k := by
  intro n k hk
  induction n with
  | zero => omega
  | succ n ih =>
    rw [valF]
    have hb := valF_bd h n
    by_cases e : k = n
    · subst e
      have hp := p2_pos (16 * k)
      unfold dg
      rw [Int.mul_comm (O k), Int.add_mul_ediv_left _ _ (by omega), Int.ediv_eq_zero_of_lt hb.1 hb.2]
      have := h k
      omega
    · have hk' : k < n := by omega
      rw [← ih hk']
      unfold dg
      have hp := p2_pos (16 * k)
      have e2 : O n * p2 (16 * n) = p2 (16 * k) * (65536 * (O n * p2 (16 * (n - k - 1)))) := by
        rw [show 16 * n = 16 * k + (16 + 16 * (n - k - 1)) by omega, p2_add, p2_add, p2_16]
        rw [Int.mul_left_comm, Int.mul_left_comm (O n)]
      rw [e2, Int.add_mul_ediv_left _ _ (by omega)]
      omega

/-- Products, digit by digit: what holds behind so many rounds. -/
def MulOut (a b : Int) (i : Nat) (O : Nat → Int) : Prop := (∀ j, 0 ≤ O j ∧ O j ≤ 65535) ∧ ∃ t, valF O 8 = a % p2 (16 * i) * b + 340282366920938463463374607431768211456 * t
def MulIn (a b : Int) (i k : Nat) (O : Nat → Int) (c : Int) : Prop := (∀ j, 0 ≤ O j ∧ O j ≤ 65535) ∧ (0 ≤ c ∧ c ≤ 65535) ∧
  ∃ t, valF O 8 + c * p2 (16 * (i + k)) = a % p2 (16 * i) * b + 340282366920938463463374607431768211456 * t + dg a i * p2 (16 * i) * (b % p2 (16 * k))
theorem mul_start (a b : Int) : MulOut a b 0 (fun _ => 0) := by
  refine ⟨fun _ => by simp, 0, ?_⟩
  have e : valF (fun _ => 0) 8 = 0 := by simp [valF]
  have e2 : a % p2 (16 * 0) = 0 := by simp [p2]
  rw [e, e2]; omega
theorem mul_enter {a b : Int} {i : Nat} {O : Nat → Int} (h : MulOut a b i O) : MulIn a b i 0 O 0 := by
  obtain ⟨h1, t, h2⟩ := h
  refine ⟨h1, by omega, t, ?_⟩
  have e2 : b % p2 (16 * 0) = 0 := by simp [p2]
  rw [e2, h2]; omega
theorem mulIn_bd {a b : Int} {i k : Nat} {O : Nat → Int} {c : Int} (h : MulIn a b i k O c) : (0 ≤ O (i + k) ∧ O (i + k) ≤ 65535) ∧ (0 ≤ c ∧ c ≤ 65535) := ⟨h.1 _, h.2.1⟩
theorem dgs_bd (a b : Int) (i k : Nat) : 0 ≤ dg a i * dg b k ∧ dg a i * dg b k ≤ 4294836225 := by
  have h1 := dg_bd a i
  have h2 := dg_bd b k
  constructor
  · exact Int.mul_nonneg h1.1 h2.1
  · have := Int.mul_le_mul h1.2 h2.2 h2.1 (by omega); omega
theorem mul_step {a b : Int} {i k : Nat} {O : Nat → Int} {c : Int} (h : MulIn a b i k O c) (hk : i + k < 8) :
    MulIn a b i (k + 1) (putF O (i + k) ((O (i + k) + dg a i * dg b k + c) % 65536)) ((O (i + k) + dg a i * dg b k + c) / 65536) := by
  obtain ⟨h1, h2, t, h3⟩ := h
  have hd := dgs_bd a b i k
  have ho := h1 (i + k)
  refine ⟨fun j => ?_, by omega, t, ?_⟩
  · unfold putF; split
    · omega
    · exact h1 j
  · rw [valF_put O _ hk, show 16 * (i + (k + 1)) = 16 * (i + k) + 16 by omega, show 16 * (k + 1) = 16 * k + 16 by omega, p2_add (16 * (i + k)), p2_add (16 * k), p2_16, split_mod b _ (by have := p2_pos (16 * k); omega)]
    have hP : p2 (16 * (i + k)) = p2 (16 * i) * p2 (16 * k) := by rw [← p2_add]; congr 1; omega
    have hb : b / p2 (16 * k) % 65536 = dg b k := rfl
    rw [hb, Int.mul_add (dg a i * p2 (16 * i)), ← Int.add_assoc, ← h3]
    have e1 : dg a i * p2 (16 * i) * (p2 (16 * k) * dg b k) = dg a i * dg b k * p2 (16 * (i + k)) := by
      rw [hP, Int.mul_assoc, Int.mul_assoc, Int.mul_comm (dg b k), ← Int.mul_assoc (p2 (16 * i))]
    rw [e1]
    generalize p2 (16 * (i + k)) = P
    generalize hn : O (i + k) + dg a i * dg b k + c = n
    have e2 : n / 65536 * (P * 65536) = 65536 * (n / 65536) * P := by rw [Int.mul_comm P, ← Int.mul_assoc, Int.mul_comm (n / 65536)]
    have e3 : (n % 65536 - O (i + k)) * P + 65536 * (n / 65536) * P = (n - O (i + k)) * P := by rw [← Int.add_mul]; congr 1; omega
    have e4 : (n - O (i + k)) * P = dg a i * dg b k * P + c * P := by rw [← Int.add_mul]; congr 1; omega
    rw [e2]
    omega
theorem mul_leave {a b : Int} {i k : Nat} {O : Nat → Int} {c : Int} (h : MulIn a b i k O c) (hk : i + k = 8) : MulOut a b (i + 1) O := by
  obtain ⟨h1, h2, t, h3⟩ := h
  have e8 : p2 (16 * (i + k)) = 340282366920938463463374607431768211456 := by rw [hk]; simp [p2]
  have hM : p2 (16 * i) * p2 (16 * k) = 340282366920938463463374607431768211456 := by rw [← p2_add, ← e8]; congr 1; omega
  have hb := Int.mul_ediv_add_emod b (p2 (16 * k))
  refine ⟨h1, t - c - dg a i * (b / p2 (16 * k)), ?_⟩
  rw [show 16 * (i + 1) = 16 * i + 16 by omega, p2_add, p2_16, split_mod a _ (by have := p2_pos (16 * i); omega)]
  have ha : a / p2 (16 * i) % 65536 = dg a i := rfl
  rw [ha, Int.add_mul]
  rw [e8] at h3
  have e1 : p2 (16 * i) * dg a i * b = dg a i * p2 (16 * i) * (b % p2 (16 * k)) + 340282366920938463463374607431768211456 * (dg a i * (b / p2 (16 * k))) := by
    conv => lhs; rw [← hb]
    rw [Int.mul_add, Int.mul_comm (p2 (16 * i)) (dg a i)]
    have : dg a i * p2 (16 * i) * (p2 (16 * k) * (b / p2 (16 * k))) = 340282366920938463463374607431768211456 * (dg a i * (b / p2 (16 * k))) := by
      rw [Int.mul_assoc, ← Int.mul_assoc (p2 (16 * i)), hM, Int.mul_left_comm]
    omega
  rw [e1]
  generalize dg a i * (b / p2 (16 * k)) = z at *
  generalize dg a i * p2 (16 * i) * (b % p2 (16 * k)) = y at *
  generalize a % p2 (16 * i) * b = x at *
  omega
theorem mul_done {a b : Int} {O : Nat → Int} (h : MulOut a b 8 O) {j : Nat} (hj : j < 8) : O j = dg (a * b) j := by
  obtain ⟨h1, t, h2⟩ := h
  rw [← dg_valF h1 8 j hj, h2]
  have e8 : p2 (16 * 8) = 340282366920938463463374607431768211456 := by simp [p2]
  rw [e8]
  have ha := Int.mul_ediv_add_emod a 340282366920938463463374607431768211456
  have e : a % 340282366920938463463374607431768211456 * b + 340282366920938463463374607431768211456 * t = a * b + 340282366920938463463374607431768211456 * (t - a / 340282366920938463463374607431768211456 * b) := by
    have : a % 340282366920938463463374607431768211456 = a - 340282366920938463463374607431768211456 * (a / 340282366920938463463374607431768211456) := by omega
    rw [this, Int.sub_mul, Int.mul_assoc]
    generalize a / 340282366920938463463374607431768211456 * b = z
    omega
  rw [e, dg_same _ _ hj]
end Go.Proofs.Ytmijjhgibbbedaa
