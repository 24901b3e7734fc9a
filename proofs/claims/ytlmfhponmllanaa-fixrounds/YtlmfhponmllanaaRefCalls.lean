/-
  What each function of the document's own answer for layer 1 (spinetref01) answers, as a function on whole numbers: the same functions as package fix's.
-/
import Derived.Test.YtlmfhponmllanaaFixCalls
namespace Go.Proofs.Ytlmfhponmllanaa
set_option linter.unusedVariables false
open Go.ChangeShapes Go.WideShapes Go.ChangeAt Go.RowKit

set_option maxHeartbeats 400000 in
theorem held_any (a b c : Int) (w : World) :
    Calls Try.prog 31 #[.int .i64 a, .int .i64 b, .int .i64 c] w fun e w' => e = .returned (.int .i64 (clamp a b c)) ∧ w' = w := by
  by_cases ha : a < b
  · go_enter Try.func31, Try.ntmps31
    go_wp2
    go_ret
    exact ⟨ret_int (by unfold clamp; rw [if_pos ha]), rfl⟩
  · by_cases hc : c < a
    · go_enter Try.func31, Try.ntmps31
      go_wp2
      go_ret
      exact ⟨ret_int (by unfold clamp; rw [if_neg (by omega), if_pos hc]), rfl⟩
    · go_enter Try.func31, Try.ntmps31
      go_wp2
      go_ret
      exact ⟨ret_int (by unfold clamp; rw [if_neg (by omega), if_neg (by omega)]), rfl⟩

set_option maxHeartbeats 400000 in
theorem bits_any (a b c : Int) (w : World) :
    Calls Try.prog 30 #[.int .i64 a, .int .i64 b, .int .i64 c] w fun e w' => e = .returned (.int .i64 (clamp a b c)) ∧ w' = w := by
  go_enter Try.func30, Try.ntmps30
  go_wp2_with (go_at_call 31; refine (held_any _ _ _ _).mono ?_; rintro e w' ⟨rfl, rfl⟩)
  go_ret
  exact ⟨rfl, rfl⟩

set_option maxHeartbeats 400000 in
theorem pow_any (n : Int) (w : World) (h1 : 0 ≤ n) (h2 : n ≤ 62) :
    Calls Try.prog 29 #[.int .i64 n] w fun e w' => e = .returned (.int .i64 (p2 n.toNat)) ∧ w' = w := by
  go_enter Try.func29, Try.ntmps29
  go_wp2
  go_loop [3, 4] (fun m i => ∃ k : Nat, (k : Int) ≤ n ∧ i = .int .i64 k ∧ m = .int .i64 (p2 k)) (fun _ i => n.toNat - (intOf i).toNat)
  case atStart => exact ⟨0, by omega, rfl, rfl⟩
  case round =>
    obtain ⟨k, hk, rfl, rfl⟩ := hrel
    by_cases hlt : (k : Int) < n
    · have hp := p2_pos k
      have hp2 := p2_62 (n := k + 1) (by omega)
      have hs := p2_succ k
      rw [hs] at hp2
      have HS : Hid _ := hs
      clear hs
      go_wp2
      go_round
      case rel => exact ⟨k + 1, by omega, by go_num, by rw [HS.out]; go_num⟩
      case measure => simp [intOf]; omega
    · go_wp2
      go_ret
      exact ⟨ret_int (by rw [show n.toNat = k by omega]), rfl⟩

set_option maxHeartbeats 400000 in
theorem floor_any (x p : Int) (w : World) (h1 : -9223372036854775808 ≤ x) (h2 : x ≤ 9223372036854775807) (h3 : 1 ≤ p) (h4 : p ≤ 4611686018427387904) :
    Calls Try.prog 32 #[.int .i64 x, .int .i64 p] w fun e w' => e = .returned (.int .i64 (x / p)) ∧ w' = w := by
  have hd := div_bd x p h3 h1 h2
  have HD : Hid _ := hd
  clear hd
  go_enter Try.func32, Try.ntmps32
  go_wp2
  all_goals go_ret
  · exact ⟨ret_int (by rw [floor_neg h3 ‹_›]; exact IntWalk.wrap64_in _ HD.out), rfl⟩
  · exact ⟨ret_int (floor_pos h3 ‹_›), rfl⟩

set_option maxHeartbeats 400000 in
theorem rsat_any (a b : Int) (w : World) :
    Calls Try.prog 12 #[.int .i64 a, .int .i64 b] w fun e w' => e = .returned (.int .i64 (satF a b)) ∧ w' = w := by
  have hb := clamp_bd b 1 63 (by omega)
  have e1 : (clamp b 1 63 - 1).toNat = (clamp b 1 63).toNat - 1 := by omega
  have E1 : Hid _ := e1
  clear e1
  have hp1 := p2_pos ((clamp b 1 63).toNat - 1)
  have hp2 := p2_62 (n := (clamp b 1 63).toNat - 1) (by omega)
  go_enter Try.func12, Try.ntmps12
  go_wp2_with (first | (go_at_call 30; refine (bits_any _ _ _ _).mono ?_; rintro e w' ⟨rfl, rfl⟩) | (go_at_call 29; refine (pow_any _ _ (by omega) (by omega)).mono ?_; rintro e w' ⟨rfl, rfl⟩; rw [E1.out]) | (go_at_call 31; refine (held_any _ _ _ _).mono ?_; rintro e w' ⟨rfl, rfl⟩))
  go_ret
  exact ⟨rfl, rfl⟩

set_option maxHeartbeats 400000 in
theorem rround_any (x s : Int) (w : World) (h1 : -9223372036854775808 ≤ x) (h2 : x ≤ 9223372036854775807) :
    Calls Try.prog 16 #[.int .i64 x, .int .i64 s] w fun e w' => e = .returned (.int .i64 (rndF x s)) ∧ w' = w := by
  have hb := clamp_bd s 0 62 (by omega)
  cases hz : (clamp s 0 62 == 0)
  · have hp1 := p2_pos ((clamp s 0 62).toNat)
    have hp2 := p2_62 (n := (clamp s 0 62).toNat) (by omega)
    go_enter Try.func16, Try.ntmps16
    go_wp2_with (first | (go_at_call 30; refine (bits_any _ _ _ _).mono ?_; rintro e w' ⟨rfl, rfl⟩) | (go_at_call 29; refine (pow_any _ _ (by omega) (by omega)).mono ?_; rintro e w' ⟨rfl, rfl⟩) | (go_at_call 32; refine (floor_any _ _ _ (by omega) (by omega) (by omega) (by omega)).mono ?_; rintro e w' ⟨rfl, rfl⟩))
    all_goals go_ret
    · exact ⟨ret_int (rnd_up h1 h2 hz ‹_›), rfl⟩
    · exact ⟨ret_int (rnd_down hz ‹_›), rfl⟩
  · have F := rnd_zero (a := x) (s := s) (by simpa using hz)
    have FH : Hid _ := F
    clear F
    go_enter Try.func16, Try.ntmps16
    go_wp2_with (first | (go_at_call 30; refine (bits_any _ _ _ _).mono ?_; rintro e w' ⟨rfl, rfl⟩))
    go_ret
    exact ⟨ret_int FH.out.symm, rfl⟩

set_option maxHeartbeats 400000 in
theorem rmul15_any (a b : Int) (w : World) (h1 : -2147483648 ≤ a) (h2 : a ≤ 2147483647) (h3 : -2147483648 ≤ b) (h4 : b ≤ 2147483647) :
    Calls Try.prog 18 #[.int .i64 a, .int .i64 b] w fun e w' => e = .returned (.int .i64 (mulF a b)) ∧ w' = w := by
  have hm := mul_bd32 h1 h2 h3 h4
  go_enter Try.func18, Try.ntmps18
  go_wp2_with (first | (go_at_call 16; refine (rround_any _ _ _ (by omega) (by omega)).mono ?_; rintro e w' ⟨rfl, rfl⟩) | (go_at_call 12; refine (rsat_any _ _ _).mono ?_; rintro e w' ⟨rfl, rfl⟩))
  go_ret
  exact ⟨rfl, rfl⟩

set_option maxHeartbeats 400000 in
theorem rlow_any (x n : Int) (w : World) (h1 : 0 ≤ x) (h2 : x ≤ 18446744073709551615) :
    Calls Try.prog 20 #[.int .u64 x, .int .i64 n] w fun e w' => e = .returned (.int .u64 (lowF x n)) ∧ w' = w := by
  by_cases hn : 64 ≤ n
  · have F := low_all h1 h2 hn
    have FH : Hid _ := F
    clear F
    go_enter Try.func20, Try.ntmps20
    go_wp2
    go_ret
    exact ⟨ret_int FH.out.symm, rfl⟩
  · go_enter Try.func20, Try.ntmps20
    go_wp2
    go_loop [5, 6] (fun m i => ∃ k : Nat, (k : Int) ≤ max n 0 ∧ i = .int .i64 k ∧ m = .int .u64 (p2 k)) (fun _ i => (max n 0).toNat - (intOf i).toNat)
    case atStart => exact ⟨0, by omega, rfl, rfl⟩
    case round =>
      obtain ⟨k, hk, rfl, rfl⟩ := hrel
      have hp := p2_pos k
      have hp2 := p2_63 (n := k) (by omega)
      by_cases hlt : (k : Int) < n
      · have hp3 := p2_63 (n := k + 1) (by omega)
        have hs := p2_succ k
        rw [hs] at hp3
        have HS : Hid _ := hs
        clear hs
        go_wp2
        go_round
        case rel => exact ⟨k + 1, by omega, by go_num, by rw [HS.out]; go_num⟩
        case measure => simp [intOf]; omega
      · have F : Hid (lowF x n = x % p2 k) := low_some hk (by omega) (by omega)
        go_wp2
        go_ret
        exact ⟨ret_int (by rw [F.out]), rfl⟩

set_option maxHeartbeats 400000 in
theorem rsign_any (x n : Int) (w : World) (h1 : 0 ≤ x) (h2 : x ≤ 18446744073709551615) :
    Calls Try.prog 22 #[.int .u64 x, .int .i64 n] w fun e w' => e = .returned (.int .i64 (sgnF x n)) ∧ w' = w := by
  have hb := clamp_bd n 1 64 (by omega)
  obtain ⟨k, hk⟩ : ∃ k : Nat, (k : Int) = clamp n 1 64 := ⟨(clamp n 1 64).toNat, by omega⟩
  have hk1 : 1 ≤ k := by omega
  have hk2 : k ≤ 64 := by omega
  have H1 : Hid (lowF 18446744073709551615 ((k : Int) - 1) = p2 (k - 1) - 1) := by have := half_is hk1 hk2; show _ = _; omega
  have H2 : Hid (lowF x (k : Int) = x % p2 k) := lowF_k x hk2
  have HK : Hid (clamp n 1 64 = (k : Int)) := hk.symm
  have hp1 := p2_pos (k - 1)
  have hp2 := p2_63 (n := k - 1) (by omega)
  have hv0 : 0 ≤ x % p2 k := Int.emod_nonneg _ (by have := p2_pos k; omega)
  have hv1 : x % p2 k < p2 k := Int.emod_lt_of_pos _ (by have := p2_pos k; omega)
  have hK : p2 k = 2 * p2 (k - 1) := by rw [← p2_succ]; congr 1; omega
  have HS1 : Hid (x % p2 k < p2 (k - 1) → sgnF x n = x % p2 k) := sgn_low hk
  have HS2 : Hid (p2 (k - 1) ≤ x % p2 k → sgnF x n = x % p2 k - 2 * p2 (k - 1)) := fun h => by rw [← hK]; exact sgn_high hk h
  replace hv1 : x % p2 k < 2 * p2 (k - 1) := by omega
  clear hb hk hK
  generalize hv : x % p2 k = v at *
  generalize hq : p2 (k - 1) = q at *
  clear hv hq
  by_cases hlt : v < q
  all_goals
    go_enter Try.func22, Try.ntmps22
    go_wp2_with (first | (go_at_call 30; refine (bits_any _ _ _ _).mono ?_; rintro e w' ⟨rfl, rfl⟩; rw [HK.out]))
    refine (rlow_any _ _ _ h1 h2).mono ?_
    rintro e w' ⟨rfl, rfl⟩
    rw [H2.out]
    go_wp2_with fail
    refine (rlow_any _ _ _ (by omega) (by omega)).mono ?_
    rintro e w' ⟨rfl, rfl⟩
    rw [H1.out]
    go_wp2
    go_ret
  · exact ⟨ret_int (HS1.out hlt).symm, rfl⟩
  · exact ⟨ret_int (by rw [HS2.out (by omega)]; omega), rfl⟩

set_option maxHeartbeats 400000 in
theorem rzig_any (x : Int) (w : World) (h1 : -9223372036854775808 ≤ x) (h2 : x ≤ 9223372036854775807) :
    Calls Try.prog 24 #[.int .i64 x] w fun e w' => e = .returned (.int .u64 (zigF x)) ∧ w' = w := by
  by_cases hx : x < 0
  · go_enter Try.func24, Try.ntmps24
    go_wp2
    go_ret
    exact ⟨ret_int (by unfold zigF; rw [if_pos hx]; go_arith), rfl⟩
  · go_enter Try.func24, Try.ntmps24
    go_wp2
    go_ret
    exact ⟨ret_int (by unfold zigF; rw [if_neg (by omega)]; go_arith), rfl⟩

set_option maxHeartbeats 400000 in
theorem rlcg_any (x : Int) (w : World) (h1 : 0 ≤ x) (h2 : x ≤ 4294967295) :
    Calls Try.prog 27 #[.int .u32 x] w fun e w' => e = .returned (.int .u32 (lcgF x)) ∧ w' = w := by
  go_enter Try.func27, Try.ntmps27
  go_wp2
  go_ret
  exact ⟨ret_int (by unfold lcgF; go_arith), rfl⟩
end Go.Proofs.Ytlmfhponmllanaa
