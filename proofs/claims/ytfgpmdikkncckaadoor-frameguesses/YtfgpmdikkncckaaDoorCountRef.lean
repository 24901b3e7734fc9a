/-
  What the document's own answers for layer 10 are: Choose and V of package spinetref10. They compute alone: no memory is made or turned.
-/
import Derived.Test.YtfgpmdikkncckaaDoorCountCalls
namespace Go.Proofs.YtfgpmdikkncckaaDoor
set_option linter.unusedVariables false
open Go.ChangeShapes Go.WideShapes Go.ChangeAt Go.RowKit

theorem ch_step {n i : Nat} (hi : i < n) (hn : n ≤ 31) (c : Nat) (hc : chL n i = c) : ((c : Int) * ((n : Int) - (i : Int))).tdiv ((i : Int) + 1) = (chL n (i + 1) : Nat) := by
  have e : (n : Int) - (i : Int) = ((n - i : Nat) : Int) := by omega
  have e2 : (i : Int) + 1 = ((i + 1 : Nat) : Int) := by omega
  rw [e, e2, ← Int.natCast_mul, chL, hc]
  rfl

theorem rsm_bd {n k : Nat} (hn : n ≤ 16) (hk : k ≤ 32) : ∀ q, q ≤ n → rsm n k q ≤ q * 253490122565222400
  | 0, _ => Nat.le_refl _
  | q + 1, h => by
    have ih := rsm_bd hn hk q (by omega)
    have h1 : 2 ^ (q + 1) ≤ 65536 := Nat.le_trans (Nat.pow_le_pow_right (by omega) (show q + 1 ≤ 16 by omega)) (by decide)
    have h2 := ch_bd16 (n := n) (i := q + 1) hn (by omega)
    have h3 := ch_bd (n := k - 1) (i := q) (by omega) (by omega)
    have h4 : 2 ^ (q + 1) * ch n (q + 1) * ch (k - 1) q ≤ 65536 * 12870 * 300540195 := Nat.mul_le_mul (Nat.mul_le_mul h1 h2) h3
    rw [rsm]
    omega
end Go.Proofs.YtfgpmdikkncckaaDoor
