/-
  What the document's own answers for layer 10 are: Choose and V of package spinetref10. They compute alone: no memory is made or turned.
-/
import Derived.Test.YtkilngogdbjmbaaDoorCountCalls
namespace Go.Proofs.YtkilngogdbjmbaaDoor
set_option linter.unusedVariables false
open Go.ChangeShapes Go.WideShapes Go.ChangeAt Go.RowKit

theorem ch_step {n i : Nat} (hi : i < n) (hn : n ≤ 31) (c : Nat) (hc : chL n i = c) : ((c : Int) * ((n : Int) - (i : Int))).tdiv ((i : Int) + 1) = (chL n (i + 1) : Nat) := by
  have e : (n : Int) - (i : Int) = ((n - i : Nat) : Int) := by omega
  have e2 : (i : Int) + 1 = ((i + 1 : Nat) : Int) := by omega
  rw [e, e2, ← Int.natCast_mul, chL, hc]
  rfl

set_option maxHeartbeats 1000000 in
theorem choose_any (w : World) (n k : Nat) (hn : n ≤ 31) (hk : k ≤ 31) : Calls Tryd.prog 69 #[.int .i64 n, .int .i64 k] w fun e w' => e = .returned (.int .u64 (ch n k : Nat)) ∧ w' = w := by
  have hk0 : ¬ (k : Int) < 0 := by omega
  by_cases h : k ≤ n
  · have hE : ch n k = chL n k := if_pos h
    rw [hE]
    clear hE
    have h' : ¬ (n : Int) < (k : Int) := by omega
    go_enter Tryd.func69, Tryd.ntmps69
    go_wp2
    go_loopw [5, 6] (fun c i wr => wr = w ∧ ∃ q : Nat, q ≤ k ∧ i = .int .i64 q ∧ c = .int .u64 (chL n q : Nat)) (fun _ i _ => k - (intOf i).toNat)
    case atStart => exact ⟨rfl, 0, by omega, rfl, rfl⟩
    case round =>
      obtain ⟨hw, q, hq, rfl, rfl⟩ := hrel
      obtain rfl := hw.symm
      by_cases hlt : q < k
      · have hlt' : (q : Int) < (k : Int) := by omega
        have hbd := chL_bd (n := n) (i := q) hn (by omega)
        obtain ⟨c, hc⟩ : ∃ c, chL n q = c := ⟨_, rfl⟩
        have hst := ch_step (by omega) hn c hc
        rw [hc] at hbd ⊢
        clear hc
        have m0 : 0 ≤ (c : Int) * ((n : Int) - (q : Int)) := Int.mul_nonneg (by omega) (by omega)
        have m1 : (c : Int) * ((n : Int) - (q : Int)) ≤ 300540195 * 31 := Int.mul_le_mul (by omega) (by omega) (by omega) (by omega)
        have hq0 : ¬ (q : Int) + 1 = 0 := by omega
        have hbd2 := chL_bd (n := n) (i := q + 1) hn (by omega)
        go_wp2
        exact ⟨⟨trivial, q + 1, by omega, by go_num, rfl⟩, by simp [intOf]; omega⟩
      · obtain rfl : q = k := by omega
        go_wp2
        go_returns
        exact ⟨rfl, rfl⟩
  · have hE : ch n k = 0 := if_neg h
    rw [hE]
    have h' : (n : Int) < (k : Int) := by omega
    go_enter Tryd.func69, Tryd.ntmps69
    go_wp2
    go_returns
    exact ⟨rfl, rfl⟩

theorem rsm_bd {n k : Nat} (hn : n ≤ 16) (hk : k ≤ 32) : ∀ q, q ≤ n → rsm n k q ≤ q * 253490122565222400
  | 0, _ => Nat.le_refl _
  | q + 1, h => by
    have ih := rsm_bd hn hk q (by omega)
    have h1 : 2 ^ (q + 1) ≤ 65536 := Nat.le_trans (Nat.pow_le_pow_right (by omega) (show q + 1 ≤ 16 by omega)) (by decide)
    have h2 := ch_bd16 (n := n) (i := q + 1) hn (by omega)
    have h3 := ch_bd (n := k - 1) (i := q) (by omega) (by omega)
    have h4 : 2 ^ (q + 1) * ch n (q + 1) * ch (k - 1) q ≤ 65536 * 12870 * 300540195 := Nat.mul_le_mul (Nat.mul_le_mul h1 h2) h3
    rw [rsm]
    omega

set_option maxHeartbeats 1000000 in
theorem rv_in (w : World) (n k : Nat) (hn : n ≤ 16) (hk : k ≤ 31) : Calls Tryd.prog 62 #[.int .i64 n, .int .i64 ((k : Int) + 1)] w fun e w' => e = .returned (.int .u64 (rsm n (k + 1) n : Nat)) ∧ w' = w := by
  have hk0 : ¬ (k : Int) + 1 = 0 := by omega
  have hk1 : ¬ (k : Int) + 1 < 0 := by omega
  have hk2 : ¬ 32 < (k : Int) + 1 := by omega
  have hn1 : ¬ (n : Int) < 0 := by omega
  have hn2 : ¬ 16 < (n : Int) := by omega
  go_enter Tryd.func62, Tryd.ntmps62
  go_wp2
  go_loopw [5, 6, 7] (fun s g i wr => wr = w ∧ ∃ q : Nat, q ≤ n ∧ i = .int .i64 ((q : Int) + 1) ∧ g = .int .u64 ((2 ^ q : Nat) : Int) ∧ s = .int .u64 (rsm n (k + 1) q : Nat)) (fun _ _ i _ => n + 1 - (intOf i).toNat)
  case atStart => exact ⟨rfl, 0, by omega, rfl, rfl, rfl⟩
  case round =>
    obtain ⟨hw, q, hq, rfl, rfl, rfl⟩ := hrel
    obtain rfl := hw.symm
    by_cases hlt : q < n
    · have hlt' : (q : Int) + 1 ≤ (n : Int) := by omega
      have h1 : 2 ^ q ≤ 32768 := Nat.le_trans (Nat.pow_le_pow_right (by omega) (show q ≤ 15 by omega)) (by decide)
      have h2 := ch_bd16 (n := n) (i := q + 1) hn (by omega)
      have h3 := ch_bd (n := k) (i := q) (by omega) (by omega)
      have h4 := rsm_bd (n := n) (k := k + 1) hn (by omega) q hq
      have h5 := rsm_bd (n := n) (k := k + 1) hn (by omega) (q + 1) (by omega)
      have hst : rsm n (k + 1) (q + 1) = rsm n (k + 1) q + 2 ^ q * 2 * ch n (q + 1) * ch k q := by rw [rsm, Nat.pow_succ]; rfl
      have hpw : 2 ^ (q + 1) = 2 ^ q * 2 := Nat.pow_succ ..
      obtain ⟨g, hg⟩ : ∃ g, 2 ^ q = g := ⟨_, rfl⟩
      obtain ⟨c1, hc1⟩ : ∃ c, ch n (q + 1) = c := ⟨_, rfl⟩
      obtain ⟨c2, hc2⟩ : ∃ c, ch k q = c := ⟨_, rfl⟩
      obtain ⟨r, hr⟩ : ∃ c, rsm n (k + 1) q = c := ⟨_, rfl⟩
      rw [hst] at h5
      rw [hg, hc1, hc2, hr] at h5 hst
      rw [hg] at h1 hpw ⊢
      rw [hc1] at h2
      rw [hc2] at h3
      rw [hr] at h4 ⊢
      have HC1 : Hid _ := hc1
      have HC2 : Hid _ := hc2
      have HST : Hid _ := hst
      have HPW : Hid _ := hpw
      clear hc1 hc2 hst hpw hg hr
      have m0 : 0 ≤ (g : Int) * 2 * (c1 : Int) := Int.mul_nonneg (by omega) (by omega)
      have m1 : (g : Int) * 2 * (c1 : Int) ≤ 65536 * 12870 := Int.mul_le_mul (by omega) (by omega) (by omega) (by omega)
      have m2 : 0 ≤ (g : Int) * 2 * (c1 : Int) * (c2 : Int) := Int.mul_nonneg m0 (by omega)
      have m3 : (g : Int) * 2 * (c1 : Int) * (c2 : Int) ≤ 253490122565222400 := Int.le_trans (Int.mul_le_mul m1 (show (c2 : Int) ≤ 300540195 by omega) (by omega) (by omega)) (by decide)
      have h5' : (r : Int) + (g : Int) * 2 * (c1 : Int) * (c2 : Int) ≤ 4309332083608780800 := by omega
      clear h5 h4
      go_wp2_with fail
      refine (choose_any _ n (q + 1) (by omega) (by omega)).mono ?_
      rw [HC1.out]
      rintro e w1 ⟨rfl, hw⟩
      obtain rfl := hw.symm
      go_wp2_with fail
      refine (choose_any _ k q (by omega) (by omega)).mono ?_
      rw [HC2.out]
      rintro e w1 ⟨rfl, hw⟩
      obtain rfl := hw.symm
      go_wp2
      exact ⟨⟨trivial, q + 1, by omega, by go_num, by rw [HPW.out]; simp, by rw [HST.out]; simp⟩, by simp [intOf]; omega⟩
    · obtain rfl : q = n := by omega
      go_wp2
      go_returns
      exact ⟨rfl, rfl⟩

theorem rv_any (w : World) (n k : Int) : Calls Tryd.prog 62 #[.int .i64 n, .int .i64 k] w fun e w' => e = .returned (.int .u64 (vI n k : Nat)) ∧ w' = w := by
  by_cases hin : 0 ≤ n ∧ n ≤ 16 ∧ 0 ≤ k ∧ k ≤ 32
  · by_cases k0 : k = 0
    · subst k0
      rw [vI_one hin.1 hin.2.1]
      obtain ⟨h1, h2, _, _⟩ := hin
      go_enter Tryd.func62, Tryd.ntmps62
      go_wp2
      go_returns
      exact ⟨rfl, rfl⟩
    · obtain ⟨i, rfl⟩ : ∃ i : Nat, n = i := ⟨n.toNat, by omega⟩
      obtain ⟨j, rfl⟩ : ∃ j : Nat, k = (j : Int) + 1 := ⟨(k - 1).toNat, by omega⟩
      have h := rv_in w i j (by omega) (by omega)
      rw [rsm_is (by omega) (by omega)] at h
      have e : vI (i : Int) ((j : Int) + 1) = vv i (j + 1) := if_pos hin
      rw [e]
      exact h
  · rw [vI_out hin]
    by_cases h0 : n < 0
    · go_enter Tryd.func62, Tryd.ntmps62
      go_wp2
      go_returns
      exact ⟨rfl, rfl⟩
    · by_cases h1 : 16 < n
      · go_enter Tryd.func62, Tryd.ntmps62
        go_wp2
        go_returns
        exact ⟨rfl, rfl⟩
      · by_cases h2 : k < 0
        · go_enter Tryd.func62, Tryd.ntmps62
          go_wp2
          go_returns
          exact ⟨rfl, rfl⟩
        · have h3 : 32 < k := by omega
          go_enter Tryd.func62, Tryd.ntmps62
          go_wp2
          go_returns
          exact ⟨rfl, rfl⟩
end Go.Proofs.YtkilngogdbjmbaaDoor
