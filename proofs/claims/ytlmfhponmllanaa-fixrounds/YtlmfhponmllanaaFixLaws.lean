/-
  The seven laws of layer 1 (fix), each as a walk: called at any arguments of its types, it returns true, and the world is as it was. No condition beside the arguments' kinds.
-/
import Derived.Test.YtlmfhponmllanaaRefCalls
namespace Go.Proofs.Ytlmfhponmllanaa
set_option linter.unusedVariables false
open Go.ChangeShapes Go.WideShapes Go.ChangeAt Go.RowKit

theorem ret_true {b : Bool} (h : b = true) : Ending.returned (.bool b) = .returned (.bool true) := by rw [h]

set_option maxHeartbeats 400000 in
theorem awake_any (w : World) :
    Calls Try.prog 10 #[] w fun e w' => e = .returned (.bool true) ∧ w' = w := by
  have E1 : Hid (rndF (-5) 1 = -2) := by show _ = _; decide
  have E2 : Hid (rndF 5 1 = 3) := by show _ = _; decide
  have E3 : Hid (zigF (-3) = 5) := by show _ = _; decide
  have E4 : Hid (sgnF 7 3 = -1) := by show _ = _; decide
  go_enter Try.func10, Try.ntmps10
  go_wp2_with fail
  refine (round_any _ _ _ (by omega) (by omega)).mono ?_
  rintro e w' ⟨rfl, rfl⟩
  rw [E1.out]
  go_wp2_with fail
  refine (round_any _ _ _ (by omega) (by omega)).mono ?_
  rintro e w' ⟨rfl, rfl⟩
  rw [E2.out]
  go_wp2_with fail
  refine (zig_any _ _ (by omega) (by omega)).mono ?_
  rintro e w' ⟨rfl, rfl⟩
  rw [E3.out]
  go_wp2_with fail
  refine (sign_any _ _ _).mono ?_
  rintro e w' ⟨rfl, rfl⟩
  rw [E4.out]
  go_wp2
  go_ret
  exact ⟨rfl, rfl⟩

set_option maxHeartbeats 400000 in
theorem zigs_any (x u : Int) (w : World) (h1 : -9223372036854775808 ≤ x) (h2 : x ≤ 9223372036854775807) (h3 : 0 ≤ u) (h4 : u ≤ 18446744073709551615) :
    Calls Try.prog 6 #[.int .i64 x, .int .u64 u] w fun e w' => e = .returned (.bool true) ∧ w' = w := by
  have hz := zigF_bd h1 h2
  have hg := zagF_bd h3 h4
  have E1 : Hid (zagF (zigF x) = x) := zag_zig x
  have E2 : Hid (zigF (zagF u) = u) := zig_zag h3
  go_enter Try.func6, Try.ntmps6
  go_wp2_with (first | (go_at_call 10; refine (awake_any _).mono ?_; rintro e w' ⟨rfl, rfl⟩) | (go_at_call 23; refine (zig_any _ _ (by omega) (by omega)).mono ?_; rintro e w' ⟨rfl, rfl⟩; try rw [E2.out]) | (go_at_call 25; refine (zag_any _ _ (by omega) (by omega)).mono ?_; rintro e w' ⟨rfl, rfl⟩; try rw [E1.out]) | (go_at_call 24; refine (rzig_any _ _ (by omega) (by omega)).mono ?_; rintro e w' ⟨rfl, rfl⟩))
  go_ret
  exact ⟨rfl, rfl⟩

set_option maxHeartbeats 400000 in
theorem bits_law (x n : Int) (w : World) (h1 : 0 ≤ x) (h2 : x ≤ 18446744073709551615) :
    Calls Try.prog 5 #[.int .u64 x, .int .i64 n] w fun e w' => e = .returned (.bool true) ∧ w' = w := by
  go_enter Try.func5, Try.ntmps5
  go_wp2_with (first | (go_at_call 10; refine (awake_any _).mono ?_; rintro e w' ⟨rfl, rfl⟩) | (go_at_call 19; refine (low_any _ _ _ h1 h2).mono ?_; rintro e w' ⟨rfl, rfl⟩) | (go_at_call 20; refine (rlow_any _ _ _ h1 h2).mono ?_; rintro e w' ⟨rfl, rfl⟩) | (go_at_call 21; refine (sign_any _ _ _).mono ?_; rintro e w' ⟨rfl, rfl⟩) | (go_at_call 22; refine (rsign_any _ _ _ h1 h2).mono ?_; rintro e w' ⟨rfl, rfl⟩))
  go_ret
  exact ⟨rfl, rfl⟩

set_option maxHeartbeats 400000 in
theorem sats_law (x n : Int) (w : World) :
    Calls Try.prog 3 #[.int .i64 x, .int .i64 n] w fun e w' => e = .returned (.bool true) ∧ w' = w := by
  have h16 := clamp_bd x (-32768) 32767 (by omega)
  have h32 := clamp_bd x (-2147483648) 2147483647 (by omega)
  rw [← satF_16] at h16
  rw [← satF_32] at h32
  go_enter Try.func3, Try.ntmps3
  go_wp2_with (first | (go_at_call 10; refine (awake_any _).mono ?_; rintro e w' ⟨rfl, rfl⟩) | (go_at_call 11; refine (sat_any _ _ _).mono ?_; rintro e w' ⟨rfl, rfl⟩) | (go_at_call 13; refine (sat16_any _ _).mono ?_; rintro e w' ⟨rfl, rfl⟩) | (go_at_call 14; refine (sat32_any _ _).mono ?_; rintro e w' ⟨rfl, rfl⟩) | (go_at_call 12; refine (rsat_any _ _ _).mono ?_; rintro e w' ⟨rfl, rfl⟩))
  go_ret
  exact ⟨rfl, rfl⟩

set_option maxHeartbeats 400000 in
theorem chance_law (a b : Int) (w : World) (h1 : 0 ≤ a) (h2 : a ≤ 4294967295) (h3 : 0 ≤ b) (h4 : b ≤ 4294967295) :
    Calls Try.prog 9 #[.int .u32 a, .int .u32 b] w fun e w' => e = .returned (.bool true) ∧ w' = w := by
  have E : Hid (((lcgF a == lcgF b) == (a == b)) = true) := lcg_one h1 h2 h3 h4
  go_enter Try.func9, Try.ntmps9
  go_wp2_with (first | (go_at_call 10; refine (awake_any _).mono ?_; rintro e w' ⟨rfl, rfl⟩) | (go_at_call 26; refine (lcg_any _ _).mono ?_; rintro e w' ⟨rfl, rfl⟩) | (go_at_call 27; refine (rlcg_any _ _ (by omega) (by omega)).mono ?_; rintro e w' ⟨rfl, rfl⟩))
  go_ret
  exact ⟨ret_true E.out, rfl⟩

set_option maxHeartbeats 400000 in
theorem twice_law (x n : Int) (w : World) (h1 : 0 ≤ x) (h2 : x ≤ 18446744073709551615) (h3 : 0 ≤ n) (h4 : n ≤ 255) :
    Calls Try.prog 8 #[.int .u64 x, .int .u8 n] w fun e w' => e = .returned (.bool true) ∧ w' = w := by
  have hl := lowF_bd (n := n % 64 + 1) h1
  have hs := sgnF_bd64 x (n % 64 + 1)
  have hu : 0 ≤ IntKind.u64.wrap (sgnF x (n % 64 + 1)) ∧ IntKind.u64.wrap (sgnF x (n % 64 + 1)) ≤ 18446744073709551615 := by rw [IntKind.wrap_u64]; omega
  have A1 : Hid (lowF (IntKind.u64.wrap (sgnF x (n % 64 + 1))) (n % 64 + 1) = lowF x (n % 64 + 1)) := low_sgn x (by omega) (by omega)
  have A2 : Hid (sgnF (lowF x (n % 64 + 1)) (n % 64 + 1) = sgnF x (n % 64 + 1)) := sgn_low_same x (by omega) (by omega)
  by_cases hk : n % 64 + 1 ≤ 63
  · have A3 : Hid (satF (sgnF x (n % 64 + 1)) (n % 64 + 1) = sgnF x (n % 64 + 1)) := sat_sgn x (by omega) hk
    go_enter Try.func8, Try.ntmps8
    go_wp2_with (first | (go_at_call 10; refine (awake_any _).mono ?_; rintro e w' ⟨rfl, rfl⟩))
    refine (low_any _ _ _ (by omega) (by omega)).mono ?_; rintro e w' ⟨rfl, rfl⟩
    go_wp2_with fail
    refine (sign_any _ _ _).mono ?_; rintro e w' ⟨rfl, rfl⟩
    go_wp2_with fail
    refine (low_any _ _ _ (by omega) (by omega)).mono ?_; rintro e w' ⟨rfl, rfl⟩
    rw [A1.out]
    go_wp2_with fail
    refine (sign_any _ _ _).mono ?_; rintro e w' ⟨rfl, rfl⟩
    rw [A2.out]
    go_wp2_with fail
    refine (sat_any _ _ _).mono ?_; rintro e w' ⟨rfl, rfl⟩
    rw [A3.out]
    go_wp2
    go_ret
    exact ⟨rfl, rfl⟩
  · have hk64 : n % 64 = 63 := by omega
    have A4 : Hid (sgnF x (n % 64 + 1) = wrap64 x) := by show _ = _; rw [hk64]; exact sgn_64 h1 h2
    clear hk64
    go_enter Try.func8, Try.ntmps8
    go_wp2_with (first | (go_at_call 10; refine (awake_any _).mono ?_; rintro e w' ⟨rfl, rfl⟩))
    refine (low_any _ _ _ (by omega) (by omega)).mono ?_; rintro e w' ⟨rfl, rfl⟩
    go_wp2_with fail
    refine (sign_any _ _ _).mono ?_; rintro e w' ⟨rfl, rfl⟩
    go_wp2_with fail
    refine (low_any _ _ _ (by omega) (by omega)).mono ?_; rintro e w' ⟨rfl, rfl⟩
    rw [A1.out]
    go_wp2_with fail
    refine (sign_any _ _ _).mono ?_; rintro e w' ⟨rfl, rfl⟩
    rw [A2.out, A4.out]
    go_wp2_with fail
    refine (sat_any _ _ _).mono ?_; rintro e w' ⟨rfl, rfl⟩
    go_wp2
    all_goals go_ret
    all_goals exact ⟨rfl, rfl⟩

set_option maxHeartbeats 400000 in
theorem near_law (x s n : Int) (w : World) (h1 : -9223372036854775808 ≤ x) (h2 : x ≤ 9223372036854775807) (h3 : 0 ≤ s) (h4 : s ≤ 255) (h5 : 0 ≤ n) (h6 : n ≤ 255) :
    Calls Try.prog 7 #[.int .i64 x, .int .u8 s, .int .u8 n] w fun e w' => e = .returned (.bool true) ∧ w' = w := by
  by_cases hx1 : x ≤ 1125899906842624
  · by_cases hx2 : -1125899906842624 ≤ x
    · have hr := rndF_bd (a := x) (s := s % 12 + 1) h1 h2
      have hr' := rndF_bd (a := x + 1) (s := s % 12 + 1) (by omega) (by omega)
      have f1 := near_hi (s := s) h3 hx1 hx2
      have f2 := near_lo (s := s) h3 hx1 hx2
      have f3 := rnd_mono x (s % 12 + 1)
      have A1 : Hid (satF (satF x n) n = satF x n) := satF_twice x n
      have A2 : Hid (satF x 52 = x) := by show _ = _; rw [satF_52]; exact clamp_in _ _ _ (by omega) (by omega)
      go_enter Try.func7, Try.ntmps7
      go_wp2_with (first | (go_at_call 10; refine (awake_any _).mono ?_; rintro e w' ⟨rfl, rfl⟩))
      refine (round_any _ _ _ (by omega) (by omega)).mono ?_; rintro e w' ⟨rfl, rfl⟩
      go_wp2_with fail
      refine (round_any _ _ _ (by omega) (by omega)).mono ?_; rintro e w' ⟨rfl, rfl⟩
      go_wp2_with (first | (go_at_call 11; refine (sat_any _ _ _).mono ?_; rintro e w' ⟨rfl, rfl⟩; (try rw [A1.out]); (try rw [A2.out])))
      go_ret
      exact ⟨rfl, rfl⟩
    · go_enter Try.func7, Try.ntmps7
      go_wp2_with (first | (go_at_call 10; refine (awake_any _).mono ?_; rintro e w' ⟨rfl, rfl⟩))
      go_ret
      exact ⟨rfl, rfl⟩
  · go_enter Try.func7, Try.ntmps7
    go_wp2_with (first | (go_at_call 10; refine (awake_any _).mono ?_; rintro e w' ⟨rfl, rfl⟩))
    go_ret
    exact ⟨rfl, rfl⟩
end Go.Proofs.Ytlmfhponmllanaa
