/-
  Vectors as numbers by a table, as plain mathematics: the first number of a rank's vector found by magnitudes, how many vectors go ahead of those that begin with a number as a difference of two or three of the table's numbers, and the table's rows as arrays. No condition; no program.
-/
import Derived.Test.YtfgpmdikkncckaaGreatDoorMrgK
namespace Go.Proofs.YtfgpmdikkncckaaGreatDoor
set_option linter.unusedVariables false

theorem sm_one (n k : Nat) : sm n k 1 = vv n k := by simp [sm]
/-- The two signs of a magnitude. -/
theorem sm_two (n k m : Nat) (hm : 1 ≤ m) : sm n k (2 * m + 1) = sm n k (2 * m - 1) + 2 * vv n (k - m) ∧ sm n k (2 * m) = sm n k (2 * m - 1) + vv n (k - m) := by
  have h1 : sm n k (2 * m) = sm n k (2 * m - 1) + vv n (k - m) := by
    have e : 2 * m = (2 * m - 1) + 1 := by omega
    rw [e, sm]
    congr 2
    omega
  refine ⟨?_, h1⟩
  have h2 : sm n k (2 * m + 1) = sm n k (2 * m) + vv n (k - m) := by
    rw [sm]
    congr 2
    omega
  omega
/-- What goes ahead, as a difference. -/
theorem sm_even {n k : Nat} (hn : n < 16) (hk : k ≤ 32) : ∀ m, m ≤ k → sm n k (2 * m) + vv (n + 1) (k - m) = vv (n + 1) k
  | 0, _ => by simp [sm]
  | m + 1, h => by
    have ih := sm_even hn hk m (by omega)
    have s1 : sm n k (2 * (m + 1)) = sm n k (2 * m) + vv n (k - m) + vv n (k - (m + 1)) := by
      have e : 2 * (m + 1) = 2 * m + 1 + 1 := by omega
      rw [e, sm, sm]
      congr 2
      · congr 2; omega
      · congr 1; omega
    have s2 := vv_sum (n := n) (k := k - (m + 1)) hn (by omega)
    rw [show k - (m + 1) + 1 = k - m by omega] at s2
    omega
theorem ahead_neg {n k : Nat} (hn : n < 16) (hk : k ≤ 32) {z : Int} (hz : z < 0) (hl : z.natAbs ≤ k) : vv (n + 1) k - vv (n + 1) (k - z.natAbs) = sm n k (place z) ∧ vv (n + 1) (k - z.natAbs) ≤ vv (n + 1) k := by
  have h := sm_even hn hk z.natAbs hl
  have e : place z = 2 * z.natAbs := by unfold place; rw [if_neg (by omega)]; omega
  rw [e]
  omega
theorem ahead_pos {n k : Nat} (hn : n < 16) (hk : k ≤ 32) {z : Int} (hz : 0 < z) (hl : z.natAbs ≤ k) : vv (n + 1) k - vv (n + 1) (k - z.natAbs) - vv n (k - z.natAbs) = sm n k (place z) ∧ vv (n + 1) (k - z.natAbs) + vv n (k - z.natAbs) ≤ vv (n + 1) k := by
  have h := sm_even hn hk z.natAbs hl
  have h2 := (sm_two n k z.natAbs (by omega)).2
  have e : place z = 2 * z.natAbs - 1 := by unfold place; rw [if_pos hz]; omega
  rw [e]
  omega
theorem num_odd (m : Nat) (hm : 1 ≤ m) : num (2 * m - 1) = m := by unfold num; split <;> omega
theorem num_even (m : Nat) : num (2 * m) = -(m : Int) := by unfold num; split <;> omega

/-- Pulses, no more than 33. -/
def pulT (r : List Int) : Nat := min (pul r) 33
theorem pul_take_le : ∀ (r : List Int) (q : Nat), pul (r.take q) ≤ pul r
  | [], q => by simp [pul]
  | x :: r, 0 => by simp [pul]
  | x :: r, q + 1 => by have := pul_take_le r q; simp only [List.take_succ_cons, pul]; omega
end Go.Proofs.YtfgpmdikkncckaaGreatDoor
