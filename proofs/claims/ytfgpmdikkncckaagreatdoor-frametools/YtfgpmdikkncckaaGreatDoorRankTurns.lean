/-
  The law RankTurns of layer 11 (rank) as a walk: called at any input it returns true, and nothing that was there has turned.
-/
import Derived.Test.YtfgpmdikkncckaaGreatDoorRankLaws
import Derived.Deep.CutBlock
namespace Go.Proofs.YtfgpmdikkncckaaGreatDoor
set_option linter.unusedVariables false
open Go.ChangeShapes Go.WideShapes Go.ChangeAt Go.RowKit

theorem chk_pos : all2 16 33 (fun n k => Nat.ble 1 (vv (n + 1) k)) = true := by kernel_rfl
theorem vv_pos {n k : Nat} (h1 : 1 ≤ n) (hn : n ≤ 16) (hk : k ≤ 32) : 1 ≤ vv n k := by
  obtain ⟨m, rfl⟩ : ∃ m, n = m + 1 := ⟨n - 1, by omega⟩
  exact Nat.le_of_ble_eq_true (all2_at chk_pos (by omega) (by omega))
theorem emod_nat (i : Nat) {v : Nat} (hv : 1 ≤ v) : ∃ j : Nat, (i : Int) % (v : Int) = j ∧ j < v ∧ j = i % v := by
  refine ⟨i % v, ?_, Nat.mod_lt _ (by omega), rfl⟩
  rfl

/-- What turning the first number that isn't 0 does. -/
theorem turn_all {r : List Int} {n q k : Nat} {z : Int} (hl : r.length = n) (h0 : ∀ j, j < q → r[j]? = some 0) (hz : r[q]? = some z) :
    (r.set q (-z)).length = n ∧ pul (r.set q (-z)) = pul r ∧ (0 < z → rk (r.set q (-z)) k = rk r k + vv (n - 1 - q) (k - z.natAbs)) ∧ (z < 0 → rk r k = rk (r.set q (-z)) k + vv (n - 1 - q) (k - z.natAbs)) := by
  have hs := zeros_split r q z h0 hz
  have hq := (List.getElem?_eq_some_iff.1 hz).1
  have htl : (r.drop (q + 1)).length = n - 1 - q := by rw [List.length_drop]; omega
  generalize r.drop (q + 1) = t at hs htl
  subst hs
  rw [zeros_set]
  refine ⟨by rw [← hl]; simp, turn_pul q z t, fun h => ?_, fun h => ?_⟩
  · rw [turn_rank q z t k h, htl]
  · have := turn_rank q (-z) t k (by omega)
    rw [Int.neg_neg, htl, show (-z).natAbs = z.natAbs by omega] at this
    exact this
theorem not_all_zero {r : List Int} {n k q : Nat} {z : Int} (hl : r.length = n) (hp : pul r = k) (hk : 1 ≤ k) (h0 : ∀ j, j < q → r[j]? = some 0) (hz : r[q]? = some z) (hq : q = n - 1) : z ≠ 0 := by
  intro e
  subst e
  have hs := zeros_split r q 0 h0 hz
  have hq2 := (List.getElem?_eq_some_iff.1 hz).1
  have ht : r.drop (q + 1) = [] := List.drop_of_length_le (by omega)
  rw [ht] at hs
  rw [hs, pul_zeros] at hp
  simp only [pul] at hp
  omega

theorem OwnL.empty (w : World) {B : Nat} (hB : B ≤ w.heap.size) : OwnL (w.alloc (.cells #[] 3)) B (.slice (some ⟨w.heap.size, 0, none⟩) 0 0) [] :=
  ⟨rfl, .inr ⟨_, 0, _, rfl, hB, heap_alloc_new _ _, Nat.le_refl _, Nat.zero_le _, rfl, rfl⟩⟩
theorem row_grown' {w w1 w2 : World} {row : Option Nat} (h : w.grownBy w1 none) (hg : w1.grownBy w2 row) (hr : ∀ q, row = some q → w.heap.size ≤ q) : w.grownBy w2 none :=
  ⟨hg.os.trans h.os, hg.tape.trans h.tape, hg.output.trans h.output, Nat.le_trans h.size hg.size, fun i hi _ => (hg.block i (Nat.lt_of_lt_of_le hi h.size) (fun e => by have := hr i e.symm; omega)).trans (h.block i hi (by simp))⟩
end Go.Proofs.YtfgpmdikkncckaaGreatDoor
