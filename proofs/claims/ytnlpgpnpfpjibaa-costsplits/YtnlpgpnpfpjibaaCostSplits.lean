/-
  The law CostSplits of layer 13 (cost) as a walk: called at any input it returns true, and nothing that was there has turned.
-/
import Derived.Test.YtnlpgpnpfpjibaaCostTells
import Derived.Test.YtnlpgpnpfpjibaaCostRises
namespace Go.Proofs.Ytnlpgpnpfpjibaa
set_option linter.unusedVariables false
open Go.ChangeShapes Go.WideShapes Go.ChangeAt Go.RowKit

set_option maxHeartbeats 2000000 in
theorem csplits_at (w : World) (n k at_ : Int) (n0 : 0 ≤ n) (n1 : n ≤ 255) (k0 : 0 ≤ k) (k1 : k ≤ 255) (t0 : 0 ≤ at_) (t1 : at_ ≤ 255) (A : Nat) (hA1 : 9 ≤ A) (hA2 : A ≤ 16) (M c i : Nat) (hM : cap A = M) (hM2 : 2 ≤ M) (hM3 : M ≤ 32) (hc1 : 1 ≤ c) (hc : c ≤ M) (hi : i ≤ c)
    (A1 A2 : Nat) (eA1 : A / 2 = A1) (eA2 : A - A / 2 = A2) (j : Nat) (ej : c - i = j) (X Y L Z : Nat) (hX : bt A1 i = X) (hY : bt A2 j = Y) (hL : lenN c = L) (hZ : bt A c = Z) (hXb : X ≤ 41) (hYb : Y ≤ 41) (hZb : Z ≤ 41) (hlt : X + Y + L < Z)
    (hc2 : i ≤ cap A1) (hc3 : j ≤ cap A2)
    (eA : Hid (9 + n % 8 = (A : Int))) (ec : Hid (1 + k % (M : Int) = (c : Int))) (ei : Hid (at_ % ((c : Int) + 1) = (i : Int))) :
    Calls Try.prog 6 #[.int .u8 n, .int .u8 k, .int .u8 at_] w fun e w' => e = .returned (.bool true) ∧ Below w.heap.size w w' := by
  have HM : Hid (capI (A : Int) = (M : Int)) := by show capI (A : Int) = (M : Int); rw [capI_nat (by omega) (by omega), hM]
  have HX : Hid (btI (A1 : Int) (i : Int) = (X : Int)) := by show btI (A1 : Int) (i : Int) = (X : Int); rw [btI_nat (by omega) (by omega) hc2, hX]
  have HYY : Hid (btI (A2 : Int) (j : Int) = (Y : Int)) := by show btI (A2 : Int) (j : Int) = (Y : Int); rw [btI_nat (by omega) (by omega) hc3, hY]
  have HZ : Hid (btI (A : Int) (c : Int) = (Z : Int)) := by show btI (A : Int) (c : Int) = (Z : Int); rw [btI_nat (by omega) (by omega) (by omega), hZ]
  have HW : Hid (wrap64 (c : Int) = (c : Int)) := by show wrap64 (c : Int) = (c : Int); unfold wrap64; omega
  have E1 : Hid ((A : Int).tdiv 2 = (A1 : Int)) := by show (A : Int).tdiv 2 = (A1 : Int); rw [Int.tdiv_eq_ediv_of_nonneg (by omega)]; omega
  have E1' : Hid ((A : Int) / 2 = (A1 : Int)) := by show (A : Int) / 2 = (A1 : Int); omega
  have E2 : Hid ((A : Int) - (A1 : Int) = (A2 : Int)) := by show (A : Int) - (A1 : Int) = (A2 : Int); omega
  have E3 : Hid ((c : Int) - (i : Int) = (j : Int)) := by show (c : Int) - (i : Int) = (j : Int); omega
  have HL : Hid (lenF 24 c + 0 = L) := hL
  have m1 : ¬ (M : Int) < 1 := by omega
  have m3 : ¬ (M : Int) = 0 := by omega
  have c3 : ¬ (c : Int) + 1 = 0 := by omega
  have x00 : (0 : Int) ≤ (X : Int) := by omega
  have y00 : (0 : Int) ≤ (Y : Int) := by omega
  have hlti : (X : Int) + (Y : Int) + (L : Int) < (Z : Int) := by omega
  have hL41 : L ≤ 41 := by omega
  clear hX hM hY hZ hL eA1 eA2 ej hc2 hc3 hlt
  go_enter Try.func6, Try.ntmps6
  go_wp2_with fail
  refine (awake13 _).mono ?_
  rintro e w0 ⟨rfl, hb0⟩
  have HY0 : Hid (Below w.heap.size w w0) := hb0
  clear hb0
  go_wp2_with fail
  refine (newb_calls _).mono ?_
  rintro e w1 ⟨b, rfl, hB1, hb1, hle⟩
  have HB1 : Hid (Bk w1 b none) := hB1
  have HY1 : Hid (Below w0.heap.size w0 w1) := hb1
  clear hB1 hb1
  go_wp2_with fail
  rw [eA.out]
  refine (cap_any _ b none _ HB1).mono ?_
  rw [HM.out]
  rintro e w2 ⟨rfl, mo2, hB2, hG2⟩
  have HB2 : Hid (Bk w2 b mo2) := hB2
  have HG2 : Hid (Gb w1 w2 b none mo2) := hG2
  clear hB2 hG2 HB1
  go_upto_region 9 with fail
  rw [ec.out, HW.out]
  go_wp2_with fail
  rw [ei.out, E1'.out]
  refine (bits_any _ b mo2 _ _ HB2).mono ?_
  rw [HX.out]
  rintro e w3 ⟨rfl, mo3, hB3, hG3⟩
  have HB3 : Hid (Bk w3 b mo3) := hB3
  have HG3 : Hid (Gb w1 w3 b none mo3) := HG2.out.trans hG3
  clear hB3 hG3 HB2 HG2
  go_wp2_with fail
  rw [E1'.out, E2.out, E3.out]
  refine (bits_any _ b mo3 _ _ HB3).mono ?_
  rw [HYY.out]
  rintro e w4 ⟨rfl, mo4, hB4, hG4⟩
  have HB4 : Hid (Bk w4 b mo4) := hB4
  have HG4 : Hid (Gb w1 w4 b none mo4) := HG3.out.trans hG4
  clear hB4 hG4 HB3 HG3
  go_wp2_with fail
  go_loopw [14, 15] (fun m y wr => wr = w4 ∧ ∃ y0 m0 f : Nat, y0 ≤ 16777215 ∧ m0 + f = 24 ∧ Hid (y0 < 2 ^ f) ∧ y = .int .i64 y0 ∧ m = .int .i64 m0 ∧ Hid (lenF f y0 + m0 = L)) (fun _ y _ => (intOf y).toNat)
  case atStart => exact ⟨rfl, c, 0, 24, by omega, by omega, by show c < 2 ^ 24; omega, rfl, rfl, HL⟩
  case round =>
    obtain ⟨hw, y0, m0, f, hy, hm, HYf, rfl, rfl, HE⟩ := hrel
    obtain rfl := hw.symm
    clear hw
    by_cases h0 : y0 = 0
    · subst h0
      have HE2 : Hid (m0 = L) := by
        show m0 = L
        have := HE.out
        cases f with
        | zero => rw [lenF] at this; omega
        | succ f => rw [lenF, if_pos rfl] at this; omega
      obtain rfl := HE2.out
      go_wp2_with fail
      refine (bits_any _ b mo4 _ _ HB4).mono ?_
      rw [HZ.out]
      rintro e w5 ⟨rfl, mo5, hB5, hG5⟩
      have HY5 : Hid (Below w.heap.size w w5) := HY0.out.trans ((below_book HY1.out hle (HG4.out.trans hG5)).mono HY0.out.size)
      clear hB5 hG5 HB4 HG4
      go_wp2
      go_returns
      exact ⟨rfl, HY5.out⟩
    · have h0' : (0 : Int) < (y0 : Int) := by omega
      obtain ⟨f', rfl⟩ : ∃ f', f = f' + 1 := by
        cases f with
        | zero => have := HYf.out; simp at this; omega
        | succ f => exact ⟨f, rfl⟩
      have HE2 : Hid (lenF f' (y0 / 2) + (m0 + 1) = L) := by show _ = L; have := HE.out; rw [lenF, if_neg h0] at this; omega
      have HY2 : Hid (y0 / 2 < 2 ^ f') := by show _ < _; have := HYf.out; rw [Nat.pow_succ] at this; omega
      go_wp2
      go_roundw
      case rel => exact ⟨trivial, y0 / 2, m0 + 1, f', by omega, by omega, HY2, by go_num, by go_num, HE2⟩
      case measure => simp [intOf]; omega

theorem csplits_law (n k at_ : Int) (w : World) (n0 : 0 ≤ n) (n1 : n ≤ 255) (k0 : 0 ≤ k) (k1 : k ≤ 255) (t0 : 0 ≤ at_) (t1 : at_ ≤ 255) : Calls Try.prog 6 #[.int .u8 n, .int .u8 k, .int .u8 at_] w fun e w' => e = .returned (.bool true) ∧ Below w.heap.size w w' := by
  obtain ⟨A, hA⟩ : ∃ A : Nat, 9 + n % 8 = A := ⟨(9 + n % 8).toNat, by omega⟩
  have hA1 : 9 ≤ A := by omega
  have hA2 : A ≤ 16 := by omega
  have hM2 := cap_two (n := A) (by omega) (by omega)
  obtain ⟨hM3, hb0, _⟩ := cap_bd (n := A) (by omega)
  have hk1 : 0 ≤ k % (cap A : Int) := Int.emod_nonneg _ (by omega)
  have hk2 : k % (cap A : Int) < (cap A : Int) := Int.emod_lt_of_pos _ (by omega)
  obtain ⟨c, hc⟩ : ∃ c : Nat, 1 + k % (cap A : Int) = c := ⟨(1 + k % (cap A : Int)).toNat, by omega⟩
  have hi1 : 0 ≤ at_ % ((c : Int) + 1) := Int.emod_nonneg _ (by omega)
  have hi2 : at_ % ((c : Int) + 1) < (c : Int) + 1 := Int.emod_lt_of_pos _ (by omega)
  obtain ⟨i, hi⟩ : ∃ i : Nat, at_ % ((c : Int) + 1) = i := ⟨(at_ % ((c : Int) + 1)).toNat, by omega⟩
  have hr := split_is hA1 hA2 (c := c) (i := i) (by omega) (by omega) (by omega)
  have hh := half_is hA1 hA2
  exact csplits_at w n k at_ n0 n1 k0 k1 t0 t1 A hA1 hA2 _ c i rfl hM2 hM3 (by omega) (by omega) (by omega) _ _ rfl rfl _ rfl _ _ _ _ rfl rfl rfl rfl (bt_bd (by omega) (by omega)) (bt_bd (by omega) (by omega)) (bt_bd (by omega) (by omega)) hr (by omega) (by omega) hA hc hi
end Go.Proofs.Ytnlpgpnpfpjibaa
