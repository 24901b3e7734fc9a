/-
  The law TableNext of layer 12 (table) as a walk: called at any input it returns true, and nothing that was there has turned.
-/
import Derived.Test.YtejappandbooeaaTableLaws
namespace Go.Proofs.Ytejappandbooeaa
set_option linter.unusedVariables false
open Go.ChangeShapes Go.WideShapes Go.ChangeAt Go.RowKit

theorem chk_two : all2 16 32 (fun n k => Nat.ble 2 (vv (n + 1) (k + 1))) = true := by kernel_rfl
theorem vv_two {n k : Nat} (h1 : 1 ≤ n) (hn : n ≤ 16) (k1 : 1 ≤ k) (hk : k ≤ 32) : 2 ≤ vv n k := by
  obtain ⟨m, rfl⟩ : ∃ m, n = m + 1 := ⟨n - 1, by omega⟩
  obtain ⟨q, rfl⟩ : ∃ q, k = q + 1 := ⟨k - 1, by omega⟩
  exact Nat.le_of_ble_eq_true (all2_at chk_two (by omega) (by omega))

theorem two_made (w : World) (A : Nat) (hA : A ≤ 16) :
    OwnL ((w.alloc (.cells (madeCells #[.int .i64 0] A) 3)).alloc (.cells (madeCells #[.int .i64 0] A) 3)).drew w.heap.size (.slice (some ⟨w.heap.size, 0, none⟩) A A) (List.replicate A 0) ∧
    OwnL ((w.alloc (.cells (madeCells #[.int .i64 0] A) 3)).alloc (.cells (madeCells #[.int .i64 0] A) 3)).drew w.heap.size (.slice (some ⟨w.heap.size + 1, 0, none⟩) A A) (List.replicate A 0) ∧
    w.grownBy ((w.alloc (.cells (madeCells #[.int .i64 0] A) 3)).alloc (.cells (madeCells #[.int .i64 0] A) 3)).drew none := by
  have hs : (w.alloc (.cells (madeCells #[.int .i64 0] A) 3)).heap.size = w.heap.size + 1 := Array.size_push ..
  have h1 : OwnL ((w.alloc (.cells (madeCells #[.int .i64 0] A) 3)).alloc (.cells (madeCells #[.int .i64 0] A) 3)) w.heap.size (.slice (some ⟨w.heap.size, 0, none⟩) A A) (List.replicate A 0) :=
    (OwnL.made w (Nat.le_refl _) A (by omega)).kept (World.grownBy_alloc _ _ none) (.inr (by simp [Value.ownBlock]))
  have h2 : OwnL ((w.alloc (.cells (madeCells #[.int .i64 0] A) 3)).alloc (.cells (madeCells #[.int .i64 0] A) 3)) w.heap.size (.slice (some ⟨w.heap.size + 1, 0, none⟩) A A) (List.replicate A 0) := by
    have := OwnL.made (w.alloc (.cells (madeCells #[.int .i64 0] A) 3)) (B := w.heap.size) (by rw [hs]; omega) A (by omega)
    rw [hs] at this
    exact this
  have h3 : w.grownBy ((w.alloc (.cells (madeCells #[.int .i64 0] A) 3)).alloc (.cells (madeCells #[.int .i64 0] A) 3)) none := row_grown' (World.grownBy_alloc _ _ none) (World.grownBy_alloc _ _ none) (by simp)
  exact ⟨h1, h2, ⟨h3.os, h3.tape, h3.output, h3.size, h3.block⟩⟩

set_option maxHeartbeats 2000000 in
theorem tnext_law (n k i : Int) (w : World) (n0 : 0 ≤ n) (n1 : n ≤ 255) (k0 : 0 ≤ k) (k1 : k ≤ 255) (i0 : 0 ≤ i) (i1 : i ≤ 18446744073709551615) : Calls Try.prog 6 #[.int .u8 n, .int .u8 k, .int .u64 i] w fun e w' => e = .returned (.bool true) ∧ Below w.heap.size w w' := by
  obtain ⟨x, hx⟩ : ∃ x : Nat, n.tmod 16 = x := ⟨(n.tmod 16).toNat, by rw [Int.tmod_eq_emod_of_nonneg n0]; omega⟩
  obtain ⟨y, hy⟩ : ∃ y : Nat, k.tmod 32 = y := ⟨(k.tmod 32).toNat, by rw [Int.tmod_eq_emod_of_nonneg k0]; omega⟩
  have hx1 : x < 16 := by rw [Int.tmod_eq_emod_of_nonneg n0] at hx; omega
  have hy1 : y < 32 := by rw [Int.tmod_eq_emod_of_nonneg k0] at hy; omega
  obtain ⟨i, rfl⟩ : ∃ j : Nat, i = j := ⟨i.toNat, by omega⟩
  obtain ⟨A, hA⟩ : ∃ A : Nat, 1 + x = A := ⟨_, rfl⟩
  obtain ⟨C, hC⟩ : ∃ C : Nat, 1 + y = C := ⟨_, rfl⟩
  have eA : (1 : Int) + (x : Int) = (A : Int) := by omega
  have eC : (1 : Int) + (y : Int) = (C : Int) := by omega
  have hvp := vv_two (n := A) (k := C) (by omega) (by omega) (by omega) (by omega)
  have hvb := vv_bd (n := A) (k := C) (by omega) (by omega)
  obtain ⟨v, hv⟩ : ∃ v, vv A C = v := ⟨_, rfl⟩
  have HV : Hid (vI (A : Int) (C : Int) = v) := by show vI _ _ = v; rw [vI_nat (by omega) (by omega), hv]
  have HVV : Hid (vv A C = v) := hv
  rw [hv] at hvp hvb
  obtain ⟨u, hu⟩ : ∃ u : Nat, v - 1 = u := ⟨_, rfl⟩
  obtain ⟨j, hj, hju, _⟩ := emod_nat i (v := u) (by omega)
  have eU : (v : Int) - 1 = (u : Int) := by omega
  have hA1 : 1 ≤ A := by omega
  have hA2 : A ≤ 16 := by omega
  have hC1 : 1 ≤ C := by omega
  have hC2 : C ≤ 32 := by omega
  have EJ : Hid ((i : Int) % (u : Int) = j) := hj
  have EA : Hid _ := eA
  have EC : Hid _ := eC
  have EU : Hid _ := eU
  have HJ : Hid (j < vv A C) := by show j < vv A C; rw [hv]; omega
  have HJ1 : Hid (j + 1 < vv A C) := by show j + 1 < vv A C; rw [hv]; omega
  have hv1 : ¬ (v : Int) < 2 := by omega
  have hu2 : ¬ (u : Int) = 0 := by omega
  clear hv eA eC hj eU
  go_enter Try.func6, Try.ntmps6
  go_wp2_with fail
  refine (awake12 _).mono ?_
  rintro e w0 ⟨rfl, hb0⟩
  have HZ0 : Hid (Below w.heap.size w w0) := hb0
  clear hb0
  go_wp2_with fail
  refine (tnew_any _).mono ?_
  rintro e w1 ⟨b, rfl, hb, hT, hb1⟩
  have HT1 : Hid (TabAt w1 b) := hT
  have HZ1 : Hid (Below w.heap.size w w1) := HZ0.out.trans (hb1.mono HZ0.out.size)
  have hbl := hT.lt
  clear hT hb1 HZ0 hb
  go_wp2_with fail
  rw [EA.out, EC.out]
  refine (tv_any _ b A C HT1).mono ?_
  rw [HV.out]
  rintro e w2 ⟨rfl, hw2⟩
  obtain rfl := hw2.symm
  clear hw2
  have hmk := run_make_row' (P := Try.prog) 22 3 (.int .i64 0) 8 Try.underlying22 lint_info rfl .i64 .i64 A (by omega) (by omega)
  go_upto_region 8 with fail
  go_cut [11, 12] (fun vx vy wc => ∃ gx gy : Nat, vx = .slice (some ⟨gx, 0, none⟩) A A ∧ vy = .slice (some ⟨gy, 0, none⟩) A A ∧ Hid (gx ≠ gy) ∧ Hid (OwnL wc w1.heap.size (.slice (some ⟨gx, 0, none⟩) A A) (List.replicate A 0)) ∧ Hid (OwnL wc w1.heap.size (.slice (some ⟨gy, 0, none⟩) A A) (List.replicate A 0)) ∧ Hid (w1.grownBy wc none))
  case first =>
    have H2 : Hid _ := two_made w1 A hA2
    go_region
    all_goals (go_wp2_with fail; go_meet)
    · exact ⟨_, _, rfl, rfl, by show _ ≠ _; omega, H2.out.1, H2.out.2.1, H2.out.2.2⟩
    · exact ⟨_, _, rfl, rfl, by show _ ≠ _; omega, H2.out.2.1, H2.out.1, H2.out.2.2⟩
  case rest =>
    obtain ⟨gx, gy, rfl, rfl, HNE, HX, HY, HG⟩ := hcut
    have hu3 : ¬ (v : Int) - 1 = 0 := by omega
    have HT2 : Hid (TabAt wc b) := HT1.out.keep HG.out
    have hxb : b < w1.heap.size := hbl
    go_wp2_with fail
    rw [EU.out, EJ.out]
    refine (into_good _ b w1.heap.size _ _ A C j HJ hA2 hC2 HT2 HX (by show _ = _; simp)).mono ?_
    rintro e w3 ⟨rfl, r, hO3, hl3, hp3, hr3, hG3⟩
    have hgx := (HX.out.lt (g := gx) rfl).1
    have hgy := (HY.out.lt (g := gy) rfl).1
    have HT3 : Hid (TabAt w3 b) := HT2.out.kept hG3 (by simp only [Value.ownBlock]; intro e; cases e; omega)
    have HX3 : Hid (OwnL w3 w1.heap.size (.slice (some ⟨gx, 0, none⟩) A A) r) := hO3
    have HY3 : Hid (OwnL w3 w1.heap.size (.slice (some ⟨gy, 0, none⟩) A A) (List.replicate A 0)) := HY.out.kept hG3 (.inr (by simp only [Value.ownBlock]; intro e; cases e; exact HNE.out rfl))
    have HG3 : Hid (w1.grownBy w3 none) := row_grown' HG.out hG3 (fun q e => by cases e; exact hgx)
    have HL3 : Hid (r.length = A) := hl3
    have HP3 : Hid (pul r = C) := hp3
    have HR3 : Hid (rk r C = j) := hr3
    have EJ1 : Hid ((j : Int) + 1 = ((j + 1 : Nat) : Int)) := by show _ = _; omega
    clear hO3 hl3 hp3 hr3 hG3 HX HY HG HT2
    go_wp2_with fail
    rw [EJ.out, EJ1.out]
    refine (into_good _ b w1.heap.size _ _ A C (j + 1) HJ1 hA2 hC2 HT3 HY3 (by show _ = _; simp)).mono ?_
    rintro e w4 ⟨rfl, s, hO4, hl4, hp4, hr4, hG4⟩
    have HX4 : Hid (LAt w4 (some ⟨gx, 0, none⟩) r) := (HX3.out.kept hG4 (.inr (by simp only [Value.ownBlock]; intro e; cases e; exact HNE.out rfl))).lat
    have HY4 : Hid (LAt w4 (some ⟨gy, 0, none⟩) s) := hO4.lat
    have HG4 : Hid (w1.grownBy w4 none) := row_grown' HG3.out hG4 (fun q e => by cases e; exact hgy)
    have HL4 : Hid (s.length = A) := hl4
    have HB4 : Hid (bef r s = true) := (bef_lt r s (HL3.out.trans hl4.symm) (by rw [HL3.out]; exact hA2) C hC2 HP3.out hp4).2 (by rw [HR3.out, hr4]; omega)
    have HB5 : Hid (bef s r = false) := by
      show bef s r = false
      cases hb : bef s r with
      | false => rfl
      | true =>
        have := (bef_lt s r (hl4.trans HL3.out.symm) (by rw [hl4]; exact hA2) C hC2 hp4 HP3.out).1 hb
        rw [HR3.out, hr4] at this
        omega
    have HW3 : Hid (WfL r) := WfL.pul (by have := HP3.out; omega)
    have HW4 : Hid (WfL s) := WfL.pul (by omega)
    clear hO4 hl4 hp4 hr4 hG4 HX3 HY3 HG3 HT3
    go_wp2_with fail
    refine (bef_any_calls _ _ _ A A A r s (by omega) HL3 HL4 HW3 HW4 HX4 HY4).mono ?_
    rw [HB4.out]
    rintro e w5 ⟨rfl, d, rfl⟩
    have HX5 : Hid (LAt (w4.drewN d) (some ⟨gx, 0, none⟩) r) := HX4.out.drewN d
    have HY5 : Hid (LAt (w4.drewN d) (some ⟨gy, 0, none⟩) s) := HY4.out.drewN d
    go_wp2_with fail
    refine (bef_any_calls _ _ _ A A A s r (by omega) HL4 HL3 HW4 HW3 HY5 HX5).mono ?_
    rw [HB5.out]
    rintro e w6 ⟨rfl, d2, rfl⟩
    go_wp2
    go_returns
    have hz := HZ1.out.grown HG4.out HZ1.out.size (by simp)
    exact ⟨rfl, hz.os, hz.tape, hz.output, hz.size, hz.block⟩
end Go.Proofs.Ytejappandbooeaa
