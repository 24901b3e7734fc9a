/-
  The law CostCovers of layer 13 (cost) as a walk: called at any input it returns true, and nothing that was there has turned.
-/
import Derived.Test.YtnlpgpnpfpjibaaCostTells
import Derived.Test.YtnlpgpnpfpjibaaCostRises
namespace Go.Proofs.Ytnlpgpnpfpjibaa
set_option linter.unusedVariables false
open Go.ChangeShapes Go.WideShapes Go.ChangeAt Go.RowKit

set_option maxHeartbeats 2000000 in
theorem ccovers_at (w : World) (n k : Int) (n0 : 0 ≤ n) (n1 : n ≤ 255) (k0 : 0 ≤ k) (k1 : k ≤ 255) (A : Nat) (hA1 : 1 ≤ A) (hA2 : A ≤ 8) (M c : Nat) (hM : cap A = M) (hM2 : 2 ≤ M) (hM3 : M ≤ 32) (hc1 : 1 ≤ c) (hc : c ≤ M) (X v : Nat) (hX : bt A c = X) (hv : vv A c = v) (hXb : X ≤ 41) (hv1 : 2 ≤ v) (hv2 : v ≤ 1048576) (hp1 : 2 * v ≤ 2 ^ X) (hp2 : 2 ^ X < 4 * v)
    (eA : Hid (1 + n % 8 = (A : Int))) (ec : Hid (1 + k % (M : Int) = (c : Int))) :
    Calls Try.prog 5 #[.int .u8 n, .int .u8 k] w fun e w' => e = .returned (.bool true) ∧ Below w.heap.size w w' := by
  have HM : Hid (capI (A : Int) = (M : Int)) := by show capI (A : Int) = (M : Int); rw [capI_nat hA1 (by omega), hM]
  have HX : Hid (btI (A : Int) (c : Int) = (X : Int)) := by show btI (A : Int) (c : Int) = (X : Int); rw [btI_nat hA1 (by omega) (by omega), hX]
  have HV : Hid (vI (A : Int) (c : Int) = v) := by show vI (A : Int) (c : Int) = v; rw [vI_at (by omega) (by omega), hv]
  have hMi : (1 : Int) < (M : Int) := by omega
  have hMi2 : ¬ (M : Int) < 1 := by omega
  have m3 : ¬ (M : Int) = 0 := by omega
  have x0 : ¬ (X : Int) < 0 := by omega
  have x00 : (0 : Int) ≤ (X : Int) := by omega
  have x64 : (X : Int) < 64 := by omega
  have v2 : (2 : Int) ≤ (v : Int) := by omega
  have v3 : (v : Int) ≤ 1048576 := by omega
  have HW : Hid (wrap64 (c : Int) = (c : Int)) := by show wrap64 (c : Int) = (c : Int); unfold wrap64; omega
  obtain ⟨P, hP⟩ : ∃ P : Nat, 2 ^ X = P := ⟨_, rfl⟩
  have hPi : ((2 : Int) ^ X) = (P : Int) := by rw [← hP]; simp
  have ep : IntKind.u64.wrap ((2 : Int) ^ X) = (P : Int) := by rw [hPi]; simp [IntKind.wrap, IntKind.bits, IntKind.signed]; omega
  have p1 : 2 * (v : Int) ≤ (P : Int) := by omega
  have p2 : (P : Int) < 4 * (v : Int) := by omega
  clear hX hM hv hp1 hp2 hP hPi
  go_enter Try.func5, Try.ntmps5
  go_wp2_with fail
  refine (awake13 _).mono ?_
  rintro e w0 ⟨rfl, hb0⟩
  have HY0 : Hid (Below w.heap.size w w0) := hb0
  clear hb0
  go_wp2_with fail
  refine (newb_calls _).mono ?_
  rintro e w1 ⟨b, rfl, hB1, hb1, hle⟩
  have HB1 : Hid (Bk w1 b none) := hB1
  have HY1 : Hid (Below w0.heap.size w0 w1) := hb1
  clear hB1 hb1
  go_wp2_with fail
  rw [eA.out]
  refine (cap_any _ b none _ HB1).mono ?_
  rw [HM.out]
  rintro e w2 ⟨rfl, mo2, hB2, hG2⟩
  have HB2 : Hid (Bk w2 b mo2) := hB2
  have HG2 : Hid (Gb w1 w2 b none mo2) := hG2
  clear hB2 hG2 HB1
  go_wp2_with fail
  rw [ec.out, HW.out]
  refine (vb_calls _ b mo2 _ _ HB2).mono ?_
  rw [HV.out]
  rintro e w3 ⟨rfl, mo3, hB3, hG3⟩
  have HB3 : Hid (Bk w3 b mo3) := hB3
  have HG3 : Hid (Gb w1 w3 b none mo3) := HG2.out.trans hG3
  clear hB3 hG3 HB2 HG2
  go_wp2_with fail
  refine (bits_any _ b mo3 _ _ HB3).mono ?_
  rw [HX.out]
  rintro e w4 ⟨rfl, mo4, hB4, hG4⟩
  have HY4 : Hid (Below w.heap.size w w4) := HY0.out.trans ((below_book HY1.out hle (HG3.out.trans hG4)).mono HY0.out.size)
  clear hB4 hG4 HB3 HG3
  go_wp2
  go_returns
  exact ⟨rfl, HY4.out⟩

theorem ccovers_law (n k : Int) (w : World) (n0 : 0 ≤ n) (n1 : n ≤ 255) (k0 : 0 ≤ k) (k1 : k ≤ 255) : Calls Try.prog 5 #[.int .u8 n, .int .u8 k] w fun e w' => e = .returned (.bool true) ∧ Below w.heap.size w w' := by
  obtain ⟨A, hA⟩ : ∃ A : Nat, 1 + n % 8 = A := ⟨(1 + n % 8).toNat, by omega⟩
  have hA1 : 1 ≤ A := by omega
  have hA2 : A ≤ 8 := by omega
  have hM2 := cap_two hA1 (by omega)
  obtain ⟨hM3, hb0, _⟩ := cap_bd (n := A) (by omega)
  have hk1 : 0 ≤ k % (cap A : Int) := Int.emod_nonneg _ (by omega)
  have hk2 : k % (cap A : Int) < (cap A : Int) := Int.emod_lt_of_pos _ (by omega)
  obtain ⟨c, hc⟩ : ∃ c : Nat, 1 + k % (cap A : Int) = c := ⟨(1 + k % (cap A : Int)).toNat, by omega⟩
  have hr := cover_is hA1 hA2 (k := c) (by omega) (by omega)
  exact ccovers_at w n k n0 n1 k0 k1 A hA1 hA2 _ c rfl hM2 hM3 (by omega) (by omega) _ _ rfl rfl (bt_bd (by omega) (by omega)) (v_two hA1 hA2 (by omega) (by omega)) ((may_is hA1 hA2 (by omega)).2 (by omega)) hr.1 hr.2 hA hc
end Go.Proofs.Ytnlpgpnpfpjibaa
