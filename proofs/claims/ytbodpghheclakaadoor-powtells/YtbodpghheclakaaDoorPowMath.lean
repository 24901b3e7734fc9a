/-
  Plain mathematics of layer 4 (pow): gains, loudnesses, fine steps, as functions on whole numbers. No condition; no program.
-/
import Derived.Test.YtbodpghheclakaaDoorFixMath
namespace Go.Proofs.YtbodpghheclakaaDoor
set_option linter.unusedVariables false
open Go.RowKit

def stepT : List Int := [32768, 34219, 35734, 37316, 38968, 40693, 42495, 44376, 46341, 48393, 50535, 52773, 55109, 57549, 60097, 62757]
def stepF (i : Nat) : Int := stepT.getD i 0
def gain (e : Nat) : Int := stepF (e % 16) * p2 (e / 16) / 32768
def expF (e : Int) : Int := gain (clamp e 0 320).toNat
def logN (v : Int) : Nat → Int
  | 0 => 0
  | n + 1 => if gain (n + 1) ≤ v then ((n : Int) + 1) else logN v n
def logF (v : Int) : Int := logN v 320
def fineP (f : Int) : Int := p2 (clamp f 0 3).toNat
def fineF (q f : Int) : Int := (2 * clamp q 0 (fineP f - 1) + 1) * 4 / fineP f - 4
def loudF (c q f : Int) : Int := clamp (clamp c 0 31 * 8 + fineF q f) 0 320

theorem stepF_bd {i : Nat} (h : i < 16) : 32768 ≤ stepF i ∧ stepF i ≤ 62757 := by
  have a : ((List.range 16).all fun i => decide (32768 ≤ stepF i ∧ stepF i ≤ 62757)) = true := by decide
  exact of_decide_eq_true (List.all_eq_true.1 a i (List.mem_range.2 h))
theorem p2_20 {n : Nat} (h : n ≤ 20) : p2 n ≤ 1048576 := by
  have := p2_mono h
  have e : p2 20 = 1048576 := by decide
  omega
theorem stepP_bd {i n : Nat} (h : i < 16) (hn : n ≤ 20) : 32768 ≤ stepF i * p2 n ∧ stepF i * p2 n ≤ 65805484032 := by
  have a := stepF_bd h
  have b := p2_pos n
  have c := p2_20 hn
  have d : stepF i * p2 n ≤ 62757 * 1048576 := Int.mul_le_mul a.2 c (by omega) (by omega)
  have e : 32768 * 1 ≤ stepF i * p2 n := Int.mul_le_mul a.1 b (by omega) (by omega)
  omega
theorem gain_bd {e : Nat} (h : e ≤ 320) : 1 ≤ gain e ∧ gain e ≤ 2008224 := by
  have a := stepP_bd (i := e % 16) (n := e / 16) (by omega) (by omega)
  unfold gain; omega
theorem expF_bd (e : Int) : 1 ≤ expF e ∧ expF e ≤ 2008224 := by
  have := clamp_bd e 0 320 (by omega)
  exact gain_bd (by omega)
theorem expF_nat {e : Nat} (h : e ≤ 320) : expF (e : Int) = gain e := by
  unfold expF; rw [clamp_in _ _ _ (by omega) (by omega)]; rfl
theorem expF_in {e : Int} (h0 : 0 ≤ e) (h : e ≤ 320) : expF e = gain e.toNat := by
  unfold expF; rw [clamp_in _ _ _ (by omega) (by omega)]

theorem gain_succ {n : Nat} (h : n < 320) : gain n ≤ gain (n + 1) := by
  have a : ((List.range 320).all fun i => decide (gain i ≤ gain (i + 1))) = true := by decide +kernel
  exact of_decide_eq_true (List.all_eq_true.1 a n (List.mem_range.2 h))
theorem gain_mono {m n : Nat} (h : m ≤ n) (hn : n ≤ 320) : gain m ≤ gain n := by
  induction n with
  | zero => obtain rfl : m = 0 := by omega
            exact Int.le_refl _
  | succ n ih =>
    rcases Nat.lt_or_ge m (n + 1) with h' | h'
    · exact Int.le_trans (ih (by omega) (by omega)) (gain_succ (by omega))
    · obtain rfl : m = n + 1 := by omega
      exact Int.le_refl _
theorem gain_octave {n : Nat} (h : n ≤ 304) : gain (n + 16) = 2 * gain n ∨ gain (n + 16) = 2 * gain n + 1 := by
  unfold gain
  rw [show (n + 16) % 16 = n % 16 by omega, show (n + 16) / 16 = n / 16 + 1 by omega, p2_succ, show stepF (n % 16) * (2 * p2 (n / 16)) = 2 * (stepF (n % 16) * p2 (n / 16)) by rw [Int.mul_left_comm]]
  generalize stepF (n % 16) * p2 (n / 16) = z
  omega

theorem logN_yes {v : Int} {n : Nat} (h : gain (n + 1) ≤ v) : logN v (n + 1) = (n : Int) + 1 := by rw [logN, if_pos h]
theorem logN_no {v : Int} {n : Nat} (h : ¬ gain (n + 1) ≤ v) : logN v (n + 1) = logN v n := by rw [logN, if_neg h]
theorem logN_spec {v : Int} (hv : 1 ≤ v) : ∀ (n : Nat), n ≤ 320 → ∃ k : Nat, logN v n = (k : Int) ∧ k ≤ n ∧ gain k ≤ v ∧ (k = n ∨ v < gain (k + 1))
  | 0, _ => ⟨0, rfl, by omega, by rw [show gain 0 = 1 by decide]; exact hv, .inl rfl⟩
  | n + 1, hn => by
    by_cases h : gain (n + 1) ≤ v
    · exact ⟨n + 1, by rw [logN_yes h]; rfl, by omega, h, .inl rfl⟩
    · obtain ⟨k, h1, h2, h3, h4⟩ := logN_spec hv n (by omega)
      refine ⟨k, by rw [logN_no h]; exact h1, by omega, h3, ?_⟩
      rcases h4 with rfl | h4
      · exact .inr (by omega)
      · exact .inr h4
theorem logF_bd (v : Int) : 0 ≤ logF v ∧ logF v ≤ 320 := by
  have : ∀ n : Nat, 0 ≤ logN v n ∧ logN v n ≤ n := by
    intro n
    induction n with
    | zero => exact ⟨Int.le_refl _, Int.le_refl _⟩
    | succ n ih =>
      rw [logN]; split
      · omega
      · omega
  exact this 320
theorem logF_spec {v : Int} (hv : 1 ≤ v) : ∃ k : Nat, logF v = (k : Int) ∧ k ≤ 320 ∧ gain k ≤ v ∧ (k = 320 ∨ v < gain (k + 1)) := logN_spec hv 320 (by omega)

theorem p2_is0 : p2 0 = 1 := by decide
theorem p2_is1 : p2 1 = 2 := by decide
theorem p2_is2 : p2 2 = 4 := by decide
theorem p2_is3 : p2 3 = 8 := by decide
theorem fineP_cases (f : Int) : (f ≤ 0 ∧ fineP f = 1) ∨ (f = 1 ∧ fineP f = 2) ∨ (f = 2 ∧ fineP f = 4) ∨ (3 ≤ f ∧ fineP f = 8) := by
  unfold fineP clamp
  rcases (show f < 0 ∨ f = 0 ∨ f = 1 ∨ f = 2 ∨ f = 3 ∨ 3 < f by omega) with h | rfl | rfl | rfl | rfl | h
  · rw [if_pos h]; exact .inl ⟨by omega, by decide⟩
  · exact .inl ⟨by omega, by decide⟩
  · exact .inr (.inl ⟨rfl, by decide⟩)
  · exact .inr (.inr (.inl ⟨rfl, by decide⟩))
  · exact .inr (.inr (.inr ⟨by omega, by decide⟩))
  · rw [if_neg (by omega), if_pos h]; exact .inr (.inr (.inr ⟨by omega, by decide⟩))
theorem fineF_bd (q f : Int) : -4 ≤ fineF q f ∧ fineF q f ≤ 3 := by
  unfold fineF
  rcases fineP_cases f with ⟨_, h⟩ | ⟨_, h⟩ | ⟨_, h⟩ | ⟨_, h⟩ <;> rw [h]
  · have := clamp_bd q 0 (1 - 1) (by omega); omega
  · have := clamp_bd q 0 (2 - 1) (by omega); omega
  · have := clamp_bd q 0 (4 - 1) (by omega); omega
  · have := clamp_bd q 0 (8 - 1) (by omega); omega
end Go.Proofs.YtbodpghheclakaaDoor
