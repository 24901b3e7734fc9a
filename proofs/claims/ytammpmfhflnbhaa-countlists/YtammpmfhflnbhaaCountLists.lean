/-
  The law CountLists of layer 10 (count) as a walk: called at any two numbers of eight bits it returns true, and nothing that was there has turned.
-/
import Derived.Test.YtammpmfhflnbhaaCountAll
namespace Go.Proofs.Ytammpmfhflnbhaa
set_option linter.unusedVariables false
open Go.ChangeShapes Go.WideShapes Go.ChangeAt Go.RowKit

set_option maxHeartbeats 1000000 in
theorem lists_law (n k : Int) (w : World) (n0 : 0 ≤ n) (n1 : n ≤ 255) (k0 : 0 ≤ k) (k1 : k ≤ 255) : Calls Try.prog 4 #[.int .u8 n, .int .u8 k] w fun e w' => e = .returned (.bool true) ∧ Below w.heap.size w w' := by
  obtain ⟨x, hx⟩ : ∃ x : Nat, n.tmod 5 = x := ⟨(n.tmod 5).toNat, by rw [Int.tmod_eq_emod_of_nonneg n0]; omega⟩
  obtain ⟨y, hy⟩ : ∃ y : Nat, k.tmod 6 = y := ⟨(k.tmod 6).toNat, by rw [Int.tmod_eq_emod_of_nonneg k0]; omega⟩
  have hx1 : x < 5 := by rw [Int.tmod_eq_emod_of_nonneg n0] at hx; omega
  have hy1 : y < 6 := by rw [Int.tmod_eq_emod_of_nonneg k0] at hy; omega
  have HE : Hid ((allL x y).length = vI x y) := by
    show (allL x y).length = vI x y
    rw [lists_is hx1 hy1]
    exact (if_pos (show (0 : Int) ≤ (x : Int) ∧ (x : Int) ≤ 16 ∧ (0 : Int) ≤ (y : Int) ∧ (y : Int) ≤ 32 by omega)).symm
  have hbd := vI_bd x y
  go_enter Try.func4, Try.ntmps4
  go_wp2_with fail
  refine (awake10 _).mono ?_
  rintro e w0 ⟨rfl, hb0⟩
  go_wp2_with fail
  refine (new_calls _).mono ?_
  rintro e w1 ⟨b, rfl, hB1, hb1, hle⟩
  replace hB1 : Hid (BkAt w1 b none noS) := hB1
  go_wp2_with fail
  refine (v_calls _ b none noS x y hB1 Ok.no).mono ?_
  rintro e w2 ⟨rfl, mo2, hB2, hG2⟩
  have HB : Hid (Below w.heap.size w w2) := hb0.trans ((below_book hb1 hle hG2).mono hb0.size)
  clear hB2 hG2 hB1 hb1 hb0 hle
  go_wp2_with fail
  refine (all_any x (by omega) y (by omega) _).mono ?_
  rintro e w3 ⟨v, rfl, hL3, hb3⟩
  obtain ⟨ao, cap, rfl, _, _, _⟩ := hL3.slice
  have HB3 : Hid (Below w.heap.size w w3) := HB.out.trans (hb3.mono HB.out.size)
  clear hL3 hb3
  rw [HE.out]
  obtain ⟨v, hv⟩ : ∃ v, vI x y = v := ⟨_, rfl⟩
  rw [hv] at hbd ⊢
  clear hv
  go_wp2
  go_returns
  exact ⟨rfl, HB3.out⟩
end Go.Proofs.Ytammpmfhflnbhaa
