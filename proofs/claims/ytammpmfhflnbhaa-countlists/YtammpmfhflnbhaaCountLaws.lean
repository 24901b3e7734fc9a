/-
  The laws CountTells, CountGrows and CountNotes of layer 10 (count) as walks: called at any input each returns true, and nothing that was there has turned.
-/
import Derived.Test.YtammpmfhflnbhaaCountCalls
import Derived.Test.YtammpmfhflnbhaaCountRef
namespace Go.Proofs.Ytammpmfhflnbhaa
set_option linter.unusedVariables false
open Go.ChangeShapes Go.WideShapes Go.ChangeAt Go.RowKit

theorem v_calls (w : World) (b : Nat) (mo : Option Nat) (S : Int → Int → Bool) (n k : Int) (h : Hid (BkAt w b mo S)) (hO : Hid (Ok S)) :
    Calls Try.prog 10 #[.pointer (some ⟨b, 0, none⟩), .int .i64 n, .int .i64 k] w fun e w' => e = .returned (.int .u64 (vI n k : Nat)) ∧ ∃ mo', BkAt w' b mo' (un S n k) ∧ Gb w w' b mo mo' :=
  v_any _ w b mo S n k (Nat.le_refl _) h hO

/-- A book that was made when there were lo blocks: its map lies behind them. -/
theorem new_calls (w : World) : Calls Try.prog 9 #[] w fun e w' => ∃ b, e = .returned (.pointer (some ⟨b, 0, none⟩)) ∧ BkAt w' b none noS ∧ Below w.heap.size w w' ∧ w.heap.size ≤ b := by
  refine (new_any w).mono ?_
  rintro e w' ⟨rfl, h1, h2⟩
  exact ⟨_, rfl, h1, h2, Nat.le_refl _⟩
theorem below_book {w w1 w2 : World} {b : Nat} {mo : Option Nat} (h : Below w.heap.size w w1) (hb : w.heap.size ≤ b) (hG : Gb w1 w2 b none mo) : Below w.heap.size w w2 :=
  h.trans (hG.below hb h.size (fun m e => by cases e))

set_option maxHeartbeats 1000000 in
theorem awake10 (w : World) : Calls Try.prog 8 #[] w fun e w' => e = .returned (.bool true) ∧ Below w.heap.size w w' := by
  have e1 : Hid (vI 2 3 = 12) := by show vI 2 3 = 12; decide
  have e2 : Hid (vI 3 2 = 18) := by show vI 3 2 = 18; decide
  go_enter Try.func8, Try.ntmps8
  go_wp2_with fail
  refine (new_calls _).mono ?_
  rintro e w1 ⟨b, rfl, hB1, hb1, hle⟩
  replace hB1 : Hid (BkAt w1 b none noS) := hB1
  go_wp2_with fail
  refine (v_calls _ b none noS 2 3 hB1 Ok.no).mono ?_
  rw [e1.out]
  rintro e w2 ⟨rfl, mo2, hB2, hG2⟩
  replace hB2 : Hid (BkAt w2 b mo2 (un noS 2 3)) := hB2
  replace hG2 : Hid (Gb w1 w2 b none mo2) := hG2
  have HO : Hid (Ok (un noS 2 3)) := Ok.no.un _ _
  go_wp2_with fail
  refine (v_calls _ b mo2 (un noS 2 3) 3 2 hB2 HO).mono ?_
  rw [e2.out]
  rintro e w3 ⟨rfl, mo3, hB3, hG3⟩
  replace hB3 : Hid (BkAt w3 b mo3 (un (un noS 2 3) 3 2)) := hB3
  replace hG3 : Hid (Gb w1 w3 b none mo3) := hG2.out.trans hG3
  go_wp2_with fail
  refine (has_any _ b mo3 (un (un noS 2 3) 3 2) 2 3 (by show (Lit.int .i64 2).wf = true; decide) (by show (Lit.int .i64 3).wf = true; decide) hB3).mono ?_
  rw [show un (un noS 2 3) 3 2 2 3 = true from by decide]
  rintro e w4 ⟨rfl, hG4⟩
  have HB : Hid (Below w.heap.size w w4) := (below_book hb1 hle hG3.out).trans ((gN_below hG4).mono (below_book hb1 hle hG3.out).size)
  clear hG4 hB1 hB2 hB3 hG2 hG3 hb1
  go_wp2
  go_returns
  exact ⟨rfl, HB.out⟩

set_option maxHeartbeats 1000000 in
theorem tells_law (n k : Int) (w : World) : Calls Try.prog 3 #[.int .i64 n, .int .i64 k] w fun e w' => e = .returned (.bool true) ∧ Below w.heap.size w w' := by
  go_enter Try.func3, Try.ntmps3
  go_wp2_with fail
  refine (awake10 _).mono ?_
  rintro e w0 ⟨rfl, hb0⟩
  go_wp2_with fail
  refine (new_calls _).mono ?_
  rintro e w1 ⟨b, rfl, hB1, hb1, hle⟩
  replace hB1 : Hid (BkAt w1 b none noS) := hB1
  go_wp2_with fail
  refine (v_calls _ b none noS n k hB1 Ok.no).mono ?_
  rintro e w2 ⟨rfl, mo2, hB2, hG2⟩
  have HB : Hid (Below w.heap.size w w2) := hb0.trans ((below_book hb1 hle hG2).mono hb0.size)
  clear hB2 hG2 hB1 hb1 hb0 hle
  go_wp2_with fail
  refine (rv_any _ n k).mono ?_
  rintro e w3 ⟨rfl, hw⟩
  obtain rfl := hw.symm
  go_wp2
  go_returns
  exact ⟨rfl, HB.out⟩

theorem grows_math {x y : Nat} (hx : x < 14) (hy : y < 31) : ∃ v v1 v2 v3 : Nat, vI (2 + (x : Int)) (1 + (y : Int)) = v ∧ vI (2 + (x : Int)) (1 + (y : Int) + 1) = v1 ∧ vI (2 + (x : Int) + 1) (1 + (y : Int)) = v2 ∧ vI (2 + (x : Int) + 1) (1 + (y : Int) + 1) = v3 ∧
    v < v1 ∧ v < v2 ∧ v3 = v1 + v2 + v ∧ v % 2 = 0 ∧ v1 ≤ 2460955893981184 ∧ v2 ≤ 2460955893981184 := by
  have e1 : vI (2 + (x : Int)) (1 + (y : Int)) = vv (x + 2) (y + 1) := by unfold vI; rw [if_pos (by omega)]; congr 1 <;> omega
  have e2 : vI (2 + (x : Int)) (1 + (y : Int) + 1) = vv (x + 2) (y + 2) := by unfold vI; rw [if_pos (by omega)]; congr 1 <;> omega
  have e3 : vI (2 + (x : Int) + 1) (1 + (y : Int)) = vv (x + 3) (y + 1) := by unfold vI; rw [if_pos (by omega)]; congr 1 <;> omega
  have e4 : vI (2 + (x : Int) + 1) (1 + (y : Int) + 1) = vv (x + 3) (y + 2) := by unfold vI; rw [if_pos (by omega)]; congr 1 <;> omega
  have h := vv_more hx hy
  exact ⟨_, _, _, _, e1, e2, e3, e4, h.1, h.2.1, vv_sum (n := x + 2) (k := y + 1) (by omega) (by omega), h.2.2, vv_bd (by omega) (by omega), vv_bd (by omega) (by omega)⟩

set_option maxHeartbeats 2000000 in
theorem grows_law (n k : Int) (w : World) (n0 : 0 ≤ n) (n1 : n ≤ 255) (k0 : 0 ≤ k) (k1 : k ≤ 255) : Calls Try.prog 6 #[.int .u8 n, .int .u8 k] w fun e w' => e = .returned (.bool true) ∧ Below w.heap.size w w' := by
  obtain ⟨x, hx⟩ : ∃ x : Nat, n.tmod 14 = x := ⟨(n.tmod 14).toNat, by rw [Int.tmod_eq_emod_of_nonneg n0]; omega⟩
  obtain ⟨y, hy⟩ : ∃ y : Nat, k.tmod 31 = y := ⟨(k.tmod 31).toNat, by rw [Int.tmod_eq_emod_of_nonneg k0]; omega⟩
  have hx1 : x < 14 := by rw [Int.tmod_eq_emod_of_nonneg n0] at hx; omega
  have hy1 : y < 31 := by rw [Int.tmod_eq_emod_of_nonneg k0] at hy; omega
  obtain ⟨v, v1, v2, v3, e0, e1, e2, e3, d1, d2, d3, d4, d5, d6⟩ := grows_math hx1 hy1
  have E0 : Hid _ := e0
  have E1 : Hid _ := e1
  have E2 : Hid _ := e2
  have E3 : Hid _ := e3
  have D3 : Hid (((v1 : Int) + (v2 : Int) + (v : Int)) = (v3 : Int)) := by show ((v1 : Int) + (v2 : Int) + (v : Int)) = (v3 : Int); omega
  have D4 : (v : Int).tmod 2 = 0 := by rw [Int.tmod_eq_emod_of_nonneg (by omega)]; omega
  have d1' : (v : Int) < (v1 : Int) := by omega
  have d2' : (v : Int) < (v2 : Int) := by omega
  have d3' : v3 ≤ 3 * 2460955893981184 := by omega
  clear e0 e1 e2 e3 d3 d4
  go_enter Try.func6, Try.ntmps6
  go_wp2_with fail
  refine (awake10 _).mono ?_
  rintro e w0 ⟨rfl, hb0⟩
  go_wp2_with fail
  refine (new_calls _).mono ?_
  rintro e w1 ⟨b, rfl, hB1, hb1, hle⟩
  replace hB1 : Hid (BkAt w1 b none noS) := hB1
  have HO1 : Hid (Ok noS) := Ok.no
  go_wp2_with fail
  refine (v_calls _ b none noS (2 + (x : Int)) (1 + (y : Int)) hB1 HO1).mono ?_
  rw [E0.out]
  rintro e w2 ⟨rfl, mo2, hB2, hG2⟩
  replace hB2 : Hid (BkAt w2 b mo2 (un noS (2 + (x : Int)) (1 + (y : Int)))) := hB2
  replace hG2 : Hid (Gb w1 w2 b none mo2) := hG2
  have HO2 : Hid (Ok (un noS (2 + (x : Int)) (1 + (y : Int)))) := HO1.out.un _ _
  obtain ⟨S2, hS2⟩ : ∃ S, un noS (2 + (x : Int)) (1 + (y : Int)) = S := ⟨_, rfl⟩
  rw [hS2] at hB2 HO2
  clear hS2 hB1 HO1
  go_wp2_with fail
  refine (v_calls _ b mo2 S2 (2 + (x : Int)) (1 + (y : Int) + 1) hB2 HO2).mono ?_
  rw [E1.out]
  rintro e w3 ⟨rfl, mo3, hB3, hG3⟩
  replace hB3 : Hid (BkAt w3 b mo3 (un S2 (2 + (x : Int)) (1 + (y : Int) + 1))) := hB3
  replace hG3 : Hid (Gb w1 w3 b none mo3) := hG2.out.trans hG3
  have HO3 : Hid (Ok (un S2 (2 + (x : Int)) (1 + (y : Int) + 1))) := HO2.out.un _ _
  obtain ⟨S3, hS3⟩ : ∃ S, un S2 (2 + (x : Int)) (1 + (y : Int) + 1) = S := ⟨_, rfl⟩
  rw [hS3] at hB3 HO3
  clear hS3 hB2 HO2 hG2
  go_wp2_with fail
  refine (v_calls _ b mo3 S3 (2 + (x : Int) + 1) (1 + (y : Int)) hB3 HO3).mono ?_
  rw [E2.out]
  rintro e w4 ⟨rfl, mo4, hB4, hG4⟩
  replace hB4 : Hid (BkAt w4 b mo4 (un S3 (2 + (x : Int) + 1) (1 + (y : Int)))) := hB4
  replace hG4 : Hid (Gb w1 w4 b none mo4) := hG3.out.trans hG4
  have HO4 : Hid (Ok (un S3 (2 + (x : Int) + 1) (1 + (y : Int)))) := HO3.out.un _ _
  obtain ⟨S4, hS4⟩ : ∃ S, un S3 (2 + (x : Int) + 1) (1 + (y : Int)) = S := ⟨_, rfl⟩
  rw [hS4] at hB4 HO4
  clear hS4 hB3 HO3 hG3
  go_wp2_with fail
  refine (v_calls _ b mo4 S4 (2 + (x : Int) + 1) (1 + (y : Int) + 1) hB4 HO4).mono ?_
  rw [E3.out]
  rintro e w5 ⟨rfl, mo5, hB5, hG5⟩
  replace hB5 : Hid (BkAt w5 b mo5 (un S4 (2 + (x : Int) + 1) (1 + (y : Int) + 1))) := hB5
  replace hG5 : Hid (Gb w1 w5 b none mo5) := hG4.out.trans hG5
  have HO5 : Hid (Ok (un S4 (2 + (x : Int) + 1) (1 + (y : Int) + 1))) := HO4.out.un _ _
  obtain ⟨S5, hS5⟩ : ∃ S, un S4 (2 + (x : Int) + 1) (1 + (y : Int) + 1) = S := ⟨_, rfl⟩
  rw [hS5] at hB5 HO5
  clear hS5 hB4 HO4 hG4
  go_wp2_with fail
  refine (v_calls _ b mo5 S5 (2 + (x : Int)) (1 + (y : Int) + 1) hB5 HO5).mono ?_
  rw [E1.out]
  rintro e w6 ⟨rfl, mo6, hB6, hG6⟩
  replace hB6 : Hid (BkAt w6 b mo6 (un S5 (2 + (x : Int)) (1 + (y : Int) + 1))) := hB6
  replace hG6 : Hid (Gb w1 w6 b none mo6) := hG5.out.trans hG6
  have HO6 : Hid (Ok (un S5 (2 + (x : Int)) (1 + (y : Int) + 1))) := HO5.out.un _ _
  obtain ⟨S6, hS6⟩ : ∃ S, un S5 (2 + (x : Int)) (1 + (y : Int) + 1) = S := ⟨_, rfl⟩
  rw [hS6] at hB6 HO6
  clear hS6 hB5 HO5 hG5
  go_wp2_with fail
  refine (v_calls _ b mo6 S6 (2 + (x : Int) + 1) (1 + (y : Int)) hB6 HO6).mono ?_
  rw [E2.out]
  rintro e w7 ⟨rfl, mo7, hB7, hG7⟩
  replace hB7 : Hid (BkAt w7 b mo7 (un S6 (2 + (x : Int) + 1) (1 + (y : Int)))) := hB7
  replace hG7 : Hid (Gb w1 w7 b none mo7) := hG6.out.trans hG7
  have HO7 : Hid (Ok (un S6 (2 + (x : Int) + 1) (1 + (y : Int)))) := HO6.out.un _ _
  obtain ⟨S7, hS7⟩ : ∃ S, un S6 (2 + (x : Int) + 1) (1 + (y : Int)) = S := ⟨_, rfl⟩
  rw [hS7] at hB7 HO7
  clear hS7 hB6 HO6 hG6
  have HB : Hid (Below w.heap.size w w7) := hb0.trans ((below_book hb1 hle hG7.out).mono hb0.size)
  clear hB7 hG7 hb1 hb0 hle HO7
  have hD := D3.out
  have hc : (v1 : Int) + (v2 : Int) = (v3 : Int) - v := by omega
  go_wp2
  go_returns
  exact ⟨rfl, HB.out⟩

set_option maxHeartbeats 2000000 in
theorem notes_law (n k pn pk : Int) (w : World) (n0 : 0 ≤ n) (n1 : n ≤ 255) (k0 : 0 ≤ k) (k1 : k ≤ 255) (hp : Hid ((Lit.int .i64 pn).wf = true)) (hk : Hid ((Lit.int .i64 pk).wf = true)) :
    Calls Try.prog 7 #[.int .u8 n, .int .u8 k, (.agg #[.int .i64 (pn), .int .i64 (pk)])] w fun e w' => e = .returned (.bool true) ∧ Below w.heap.size w w' := by
  obtain ⟨x, hx⟩ : ∃ x : Nat, n.tmod 17 = x := ⟨(n.tmod 17).toNat, by rw [Int.tmod_eq_emod_of_nonneg n0]; omega⟩
  obtain ⟨y, hy⟩ : ∃ y : Nat, k.tmod 33 = y := ⟨(k.tmod 33).toNat, by rw [Int.tmod_eq_emod_of_nonneg k0]; omega⟩
  have hx1 : x < 17 := by rw [Int.tmod_eq_emod_of_nonneg n0] at hx; omega
  have hy1 : y < 33 := by rw [Int.tmod_eq_emod_of_nonneg k0] at hy; omega
  have hU : un noS x y pn pk = bx x y pn pk := by unfold un noS; rfl
  by_cases a1 : 1 ≤ pn
  · by_cases a2 : pn ≤ (x : Int)
    · by_cases a3 : 1 ≤ pk
      · by_cases a4 : pk ≤ (y : Int)
        · have HY : Hid (un noS x y pn pk = true) := by show un noS x y pn pk = true; rw [hU, bx_true]; omega
          clear hU
          go_enter Try.func7, Try.ntmps7
          go_wp2_with fail
          refine (awake10 _).mono ?_
          rintro e w0 ⟨rfl, hb0⟩
          have p0 : w0.cell? ⟨w.heap.size, 0, none⟩ = some (.int .i64 pn) := by rw [hb0.cell (by simp)]; go_simp
          have p1 : w0.cell? ⟨w.heap.size, 1, none⟩ = some (.int .i64 pk) := by rw [hb0.cell (by simp)]; go_simp
          have hz0 : w.heap.size < w0.heap.size := by have := hb0.size; simp at this; omega
          go_wp2_with fail
          refine (new_calls _).mono ?_
          rintro e w1 ⟨b, rfl, hB1, hb1, hle⟩
          replace hB1 : Hid (BkAt w1 b none noS) := hB1
          go_wp2_with fail
          refine (v_calls _ b none noS x y hB1 Ok.no).mono ?_
          rintro e w2 ⟨rfl, mo2, hB2, hG2⟩
          replace hB2 : Hid (BkAt w2 b mo2 (un noS x y)) := hB2
          have hb2 := below_book hb1 hle hG2
          rw [← hb2.cell (by exact hz0)] at p0 p1
          have HB : Hid (Below w.heap.size w w2) := ((Below.refl _ w).alloc (Nat.le_refl _) _).trans ((hb0.mono (by simp)).trans (hb2.mono (by omega)))
          have hz2 := Nat.lt_of_lt_of_le hz0 hb2.size
          clear hG2 hB1 hb1 hb0 hle hz0 hb2
          go_wp2_with fail
          refine (has_any _ b mo2 (un noS x y) pn pk hp hk hB2).mono ?_
          rw [HY.out]
          rintro e w3 ⟨rfl, hG3⟩
          have HB3 : Hid (Below w.heap.size w w3) := HB.out.trans ((gN_below hG3).mono HB.out.size)
          clear hG3 HB
          go_wp2
          go_returns
          exact ⟨rfl, HB3.out⟩
        · have HY : Hid (un noS x y pn pk = false) := by show un noS x y pn pk = false; rw [hU, Bool.eq_false_iff]; intro h; rw [bx_true] at h; omega
          have a5 : decide (pk ≤ (y : Int)) = false := decide_eq_false a4
          clear hU
          go_enter Try.func7, Try.ntmps7
          go_wp2_with fail
          refine (awake10 _).mono ?_
          rintro e w0 ⟨rfl, hb0⟩
          have p0 : w0.cell? ⟨w.heap.size, 0, none⟩ = some (.int .i64 pn) := by rw [hb0.cell (by simp)]; go_simp
          have p1 : w0.cell? ⟨w.heap.size, 1, none⟩ = some (.int .i64 pk) := by rw [hb0.cell (by simp)]; go_simp
          have hz0 : w.heap.size < w0.heap.size := by have := hb0.size; simp at this; omega
          go_wp2_with fail
          refine (new_calls _).mono ?_
          rintro e w1 ⟨b, rfl, hB1, hb1, hle⟩
          replace hB1 : Hid (BkAt w1 b none noS) := hB1
          go_wp2_with fail
          refine (v_calls _ b none noS x y hB1 Ok.no).mono ?_
          rintro e w2 ⟨rfl, mo2, hB2, hG2⟩
          replace hB2 : Hid (BkAt w2 b mo2 (un noS x y)) := hB2
          have hb2 := below_book hb1 hle hG2
          rw [← hb2.cell (by exact hz0)] at p0 p1
          have HB : Hid (Below w.heap.size w w2) := ((Below.refl _ w).alloc (Nat.le_refl _) _).trans ((hb0.mono (by simp)).trans (hb2.mono (by omega)))
          have hz2 := Nat.lt_of_lt_of_le hz0 hb2.size
          clear hG2 hB1 hb1 hb0 hle hz0 hb2
          go_wp2_with fail
          refine (has_any _ b mo2 (un noS x y) pn pk hp hk hB2).mono ?_
          rw [HY.out]
          rintro e w3 ⟨rfl, hG3⟩
          have HB3 : Hid (Below w.heap.size w w3) := HB.out.trans ((gN_below hG3).mono HB.out.size)
          clear hG3 HB
          go_wp2
          go_returns
          exact ⟨rfl, HB3.out⟩
      · have HY : Hid (un noS x y pn pk = false) := by show un noS x y pn pk = false; rw [hU, Bool.eq_false_iff]; intro h; rw [bx_true] at h; omega
        clear hU
        go_enter Try.func7, Try.ntmps7
        go_wp2_with fail
        refine (awake10 _).mono ?_
        rintro e w0 ⟨rfl, hb0⟩
        have p0 : w0.cell? ⟨w.heap.size, 0, none⟩ = some (.int .i64 pn) := by rw [hb0.cell (by simp)]; go_simp
        have p1 : w0.cell? ⟨w.heap.size, 1, none⟩ = some (.int .i64 pk) := by rw [hb0.cell (by simp)]; go_simp
        have hz0 : w.heap.size < w0.heap.size := by have := hb0.size; simp at this; omega
        go_wp2_with fail
        refine (new_calls _).mono ?_
        rintro e w1 ⟨b, rfl, hB1, hb1, hle⟩
        replace hB1 : Hid (BkAt w1 b none noS) := hB1
        go_wp2_with fail
        refine (v_calls _ b none noS x y hB1 Ok.no).mono ?_
        rintro e w2 ⟨rfl, mo2, hB2, hG2⟩
        replace hB2 : Hid (BkAt w2 b mo2 (un noS x y)) := hB2
        have hb2 := below_book hb1 hle hG2
        rw [← hb2.cell (by exact hz0)] at p0 p1
        have HB : Hid (Below w.heap.size w w2) := ((Below.refl _ w).alloc (Nat.le_refl _) _).trans ((hb0.mono (by simp)).trans (hb2.mono (by omega)))
        have hz2 := Nat.lt_of_lt_of_le hz0 hb2.size
        clear hG2 hB1 hb1 hb0 hle hz0 hb2
        go_wp2_with fail
        refine (has_any _ b mo2 (un noS x y) pn pk hp hk hB2).mono ?_
        rw [HY.out]
        rintro e w3 ⟨rfl, hG3⟩
        have HB3 : Hid (Below w.heap.size w w3) := HB.out.trans ((gN_below hG3).mono HB.out.size)
        clear hG3 HB
        go_wp2
        go_returns
        exact ⟨rfl, HB3.out⟩
    · have HY : Hid (un noS x y pn pk = false) := by show un noS x y pn pk = false; rw [hU, Bool.eq_false_iff]; intro h; rw [bx_true] at h; omega
      clear hU
      go_enter Try.func7, Try.ntmps7
      go_wp2_with fail
      refine (awake10 _).mono ?_
      rintro e w0 ⟨rfl, hb0⟩
      have p0 : w0.cell? ⟨w.heap.size, 0, none⟩ = some (.int .i64 pn) := by rw [hb0.cell (by simp)]; go_simp
      have p1 : w0.cell? ⟨w.heap.size, 1, none⟩ = some (.int .i64 pk) := by rw [hb0.cell (by simp)]; go_simp
      have hz0 : w.heap.size < w0.heap.size := by have := hb0.size; simp at this; omega
      go_wp2_with fail
      refine (new_calls _).mono ?_
      rintro e w1 ⟨b, rfl, hB1, hb1, hle⟩
      replace hB1 : Hid (BkAt w1 b none noS) := hB1
      go_wp2_with fail
      refine (v_calls _ b none noS x y hB1 Ok.no).mono ?_
      rintro e w2 ⟨rfl, mo2, hB2, hG2⟩
      replace hB2 : Hid (BkAt w2 b mo2 (un noS x y)) := hB2
      have hb2 := below_book hb1 hle hG2
      rw [← hb2.cell (by exact hz0)] at p0 p1
      have HB : Hid (Below w.heap.size w w2) := ((Below.refl _ w).alloc (Nat.le_refl _) _).trans ((hb0.mono (by simp)).trans (hb2.mono (by omega)))
      have hz2 := Nat.lt_of_lt_of_le hz0 hb2.size
      clear hG2 hB1 hb1 hb0 hle hz0 hb2
      go_wp2_with fail
      refine (has_any _ b mo2 (un noS x y) pn pk hp hk hB2).mono ?_
      rw [HY.out]
      rintro e w3 ⟨rfl, hG3⟩
      have HB3 : Hid (Below w.heap.size w w3) := HB.out.trans ((gN_below hG3).mono HB.out.size)
      clear hG3 HB
      go_wp2
      go_returns
      exact ⟨rfl, HB3.out⟩
  · have HY : Hid (un noS x y pn pk = false) := by show un noS x y pn pk = false; rw [hU, Bool.eq_false_iff]; intro h; rw [bx_true] at h; omega
    clear hU
    go_enter Try.func7, Try.ntmps7
    go_wp2_with fail
    refine (awake10 _).mono ?_
    rintro e w0 ⟨rfl, hb0⟩
    have p0 : w0.cell? ⟨w.heap.size, 0, none⟩ = some (.int .i64 pn) := by rw [hb0.cell (by simp)]; go_simp
    have p1 : w0.cell? ⟨w.heap.size, 1, none⟩ = some (.int .i64 pk) := by rw [hb0.cell (by simp)]; go_simp
    have hz0 : w.heap.size < w0.heap.size := by have := hb0.size; simp at this; omega
    go_wp2_with fail
    refine (new_calls _).mono ?_
    rintro e w1 ⟨b, rfl, hB1, hb1, hle⟩
    replace hB1 : Hid (BkAt w1 b none noS) := hB1
    go_wp2_with fail
    refine (v_calls _ b none noS x y hB1 Ok.no).mono ?_
    rintro e w2 ⟨rfl, mo2, hB2, hG2⟩
    replace hB2 : Hid (BkAt w2 b mo2 (un noS x y)) := hB2
    have hb2 := below_book hb1 hle hG2
    rw [← hb2.cell (by exact hz0)] at p0 p1
    have HB : Hid (Below w.heap.size w w2) := ((Below.refl _ w).alloc (Nat.le_refl _) _).trans ((hb0.mono (by simp)).trans (hb2.mono (by omega)))
    have hz2 := Nat.lt_of_lt_of_le hz0 hb2.size
    clear hG2 hB1 hb1 hb0 hle hz0 hb2
    go_wp2_with fail
    refine (has_any _ b mo2 (un noS x y) pn pk hp hk hB2).mono ?_
    rw [HY.out]
    rintro e w3 ⟨rfl, hG3⟩
    have HB3 : Hid (Below w.heap.size w w3) := HB.out.trans ((gN_below hG3).mono HB.out.size)
    clear hG3 HB
    go_wp2
    go_returns
    exact ⟨rfl, HB3.out⟩
end Go.Proofs.Ytammpmfhflnbhaa
