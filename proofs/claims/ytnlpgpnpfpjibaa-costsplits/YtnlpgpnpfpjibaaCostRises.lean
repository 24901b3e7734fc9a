/-
  The law CostRises of layer 13 (cost) as a walk: called at any input it returns true, and nothing that was there has turned.
-/
import Derived.Test.YtnlpgpnpfpjibaaCostTells
namespace Go.Proofs.Ytnlpgpnpfpjibaa
set_option linter.unusedVariables false
open Go.ChangeShapes Go.WideShapes Go.ChangeAt Go.RowKit

theorem chk_two : all2 16 1 (fun n _ => Nat.ble 2 (cap (n + 1))) = true := by kernel_rfl
theorem cap_two {n : Nat} (h1 : 1 ≤ n) (h2 : n ≤ 16) : 2 ≤ cap n := by
  obtain ⟨m, rfl⟩ : ∃ m, n = m + 1 := ⟨n - 1, by omega⟩
  exact Nat.le_of_ble_eq_true (all2_at chk_two (n := m) (k := 0) (by omega) (by omega))

set_option maxHeartbeats 2000000 in
theorem crises_at (w : World) (n k : Int) (n0 : 0 ≤ n) (n1 : n ≤ 255) (k0 : 0 ≤ k) (k1 : k ≤ 255) (A : Nat) (hA1 : 1 ≤ A) (hA2 : A ≤ 16) (M c : Nat) (hM : cap A = M) (hM2 : 2 ≤ M) (hM3 : M ≤ 32) (hc : c < M) (X Y : Nat) (hX : bt A c = X) (hY : bt A (c + 1) = Y) (hXY : X ≤ Y) (hY2 : 2 ≤ Y) (hXb : X ≤ 41) (hYb : Y ≤ 41) (h00 : c = 0 → X = 0)
    (eA : Hid (1 + n % 16 = (A : Int))) (ec : Hid (k % (M : Int) = (c : Int))) :
    Calls Try.prog 4 #[.int .u8 n, .int .u8 k] w fun e w' => e = .returned (.bool true) ∧ Below w.heap.size w w' := by
  have HM : Hid (capI (A : Int) = (M : Int)) := by show capI (A : Int) = (M : Int); rw [capI_nat hA1 hA2, hM]
  have HX : Hid (btI (A : Int) (c : Int) = (X : Int)) := by show btI (A : Int) (c : Int) = (X : Int); rw [btI_nat hA1 hA2 (by omega), hX]
  have HY : Hid (btI (A : Int) ((c : Int) + 1) = (Y : Int)) := by
    show btI (A : Int) ((c : Int) + 1) = (Y : Int)
    rw [show (c : Int) + 1 = ((c + 1 : Nat) : Int) by omega, btI_nat hA1 hA2 (by omega), hY]
  have HO : Hid (btI (A : Int) ((M : Int) + 1) = -1) := btI_over (n := A) (by omega)
  clear hX hY hM
  have m1 : ¬ (M : Int) < 2 := by omega
  have m2 : ¬ (32 : Int) < (M : Int) := by omega
  have m3 : ¬ (M : Int) = 0 := by omega
  have x0 : (0 : Int) ≤ (X : Int) := by omega
  have x1 : (X : Int) ≤ (Y : Int) := by omega
  have y2 : (2 : Int) ≤ (Y : Int) := by omega
  go_enter Try.func4, Try.ntmps4
  go_wp2_with fail
  refine (awake13 _).mono ?_
  rintro e w0 ⟨rfl, hb0⟩
  have HY0 : Hid (Below w.heap.size w w0) := hb0
  clear hb0
  go_wp2_with fail
  refine (newb_calls _).mono ?_
  rintro e w1 ⟨b, rfl, hB1, hb1, hle⟩
  go_wp2_with fail
  refine (tnew_any _).mono ?_
  rintro e w2 ⟨tb, rfl, hle2, hT2, hb2⟩
  have HT2 : Hid (TabAt w2 tb) := hT2
  go_wp2_with fail
  refine (snew_any _ tb HT2).mono ?_
  rintro e w3 ⟨sb, rfl, hle3, hS3, hb3⟩
  obtain ⟨hB3, hY3⟩ := new3 w0 hb1 hB1 hle hb2 hb3
  have HB3 : Hid (Bk w3 b none) := hB3
  have HS3 : Hid (ShAt w3 sb) := hS3
  have HY3 : Hid (Below w0.heap.size w0 w3) := hY3
  clear hB1 hb1 hle2 hT2 hb2 hle3 hS3 hb3 hB3 hY3 HT2
  go_wp2_with fail
  rw [eA.out]
  refine (scap_any _ sb _ HS3).mono ?_
  rw [HM.out]
  rintro e w4 ⟨rfl, hw⟩
  obtain rfl := hw.symm
  clear hw
  go_wp2_with fail
  rw [ec.out]
  refine (bits_any _ b none _ _ HB3).mono ?_
  rw [HX.out]
  rintro e w5 ⟨rfl, mo5, hB5, hG5⟩
  have HB5 : Hid (Bk w5 b mo5) := hB5
  have HS5 : Hid (ShAt w5 sb) := HS3.out.bk HB3.out hG5
  have HG5 : Hid (Gb w3 w5 b none mo5) := hG5
  clear hB5 hG5 HS3 HB3
  go_wp2_with fail
  refine (bits_any _ b mo5 _ _ HB5).mono ?_
  rw [HY.out]
  rintro e w6 ⟨rfl, mo6, hB6, hG6⟩
  have HS6 : Hid (ShAt w6 sb) := HS5.out.bk HB5.out hG6
  have HY6 : Hid (Below w.heap.size w w6) := HY0.out.trans ((below_book HY3.out hle (HG5.out.trans hG6)).mono HY0.out.size)
  clear hB6 hG6 HS5 HB5 HG5
  go_wp2_with fail
  refine (sbits_any _ sb _ _ HS6).mono ?_
  rw [HX.out]
  rintro e w7 ⟨rfl, hw⟩
  obtain rfl := hw.symm
  clear hw
  go_wp2_with fail
  refine (sbits_any _ sb _ _ HS6).mono ?_
  rw [HY.out]
  rintro e w7 ⟨rfl, hw⟩
  obtain rfl := hw.symm
  clear hw
  by_cases c0 : c = 0
  · obtain rfl := c0
    obtain rfl := h00 rfl
    go_wp2_with fail
    refine (sbits_any _ sb _ _ HS6).mono ?_
    rw [HO.out]
    rintro e w7 ⟨rfl, hw⟩
    obtain rfl := hw.symm
    clear hw
    go_wp2
    go_returns
    exact ⟨rfl, HY6.out⟩
  · have c1 : (0 : Int) < (c : Int) := by omega
    go_wp2_with fail
    refine (sbits_any _ sb _ _ HS6).mono ?_
    rw [HO.out]
    rintro e w7 ⟨rfl, hw⟩
    obtain rfl := hw.symm
    clear hw
    go_wp2
    go_returns
    exact ⟨rfl, HY6.out⟩

theorem crises_law (n k : Int) (w : World) (n0 : 0 ≤ n) (n1 : n ≤ 255) (k0 : 0 ≤ k) (k1 : k ≤ 255) : Calls Try.prog 4 #[.int .u8 n, .int .u8 k] w fun e w' => e = .returned (.bool true) ∧ Below w.heap.size w w' := by
  obtain ⟨A, hA⟩ : ∃ A : Nat, 1 + n % 16 = A := ⟨(1 + n % 16).toNat, by omega⟩
  have hA1 : 1 ≤ A := by omega
  have hA2 : A ≤ 16 := by omega
  have hM2 := cap_two hA1 hA2
  obtain ⟨hM3, hb0, _⟩ := cap_bd hA2
  have hk1 : 0 ≤ k % (cap A : Int) := Int.emod_nonneg _ (by omega)
  have hk2 : k % (cap A : Int) < (cap A : Int) := Int.emod_lt_of_pos _ (by omega)
  obtain ⟨c, hc⟩ : ∃ c : Nat, k % (cap A : Int) = c := ⟨(k % (cap A : Int)).toNat, by omega⟩
  have hr := rise_is hA1 hA2 (k := c) (by omega)
  exact crises_at w n k n0 n1 k0 k1 A hA1 hA2 _ c rfl hM2 hM3 (by omega) _ _ rfl rfl hr.1 hr.2 (bt_bd hA2 (by omega)) (bt_bd hA2 (by omega)) (fun e => by subst e; exact hb0) hA hc
end Go.Proofs.Ytnlpgpnpfpjibaa
