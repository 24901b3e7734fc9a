/-
  What each function of package fix answers, as a function on whole numbers: contracts for every input of its types (integer arguments within their kinds).
-/
import Derived.Test.YtlmfhponmllanaaFixMath
import Derived.Test.YtlmfhponmllanaaRows
import Derived.ProofKit
import Derived.OpenShut
import Derived.WalkSpells
import Derived.Handy
import Derived.WalkLawsBesides
namespace Go.Proofs.Ytlmfhponmllanaa
set_option linter.unusedVariables false
open Go.ChangeShapes Go.WideShapes Go.ChangeAt Go.RowKit

theorem ret_int {k : IntKind} {a b : Int} (h : a = b) : Ending.returned (.int k a) = .returned (.int k b) := by rw [h]

set_option maxHeartbeats 400000 in
theorem within_any (a b c : Int) (w : World) (h1 : 0 ≤ b) (h2 : b ≤ c) (h3 : c ≤ 64) :
    Calls Try.prog 28 #[.int .i64 a, .int .i64 b, .int .i64 c] w fun e w' => e = .returned (.int .u64 (clamp a b c)) ∧ w' = w := by
  by_cases ha : a < b
  · go_enter Try.func28, Try.ntmps28
    go_wp2
    go_ret
    exact ⟨ret_int (by unfold clamp; rw [if_pos ha]), rfl⟩
  · by_cases hc : c < a
    · go_enter Try.func28, Try.ntmps28
      go_wp2
      go_ret
      exact ⟨ret_int (by unfold clamp; rw [if_neg (by omega), if_pos hc]), rfl⟩
    · go_enter Try.func28, Try.ntmps28
      go_wp2
      go_ret
      exact ⟨ret_int (by unfold clamp; rw [if_neg (by omega), if_neg (by omega)]), rfl⟩

set_option maxHeartbeats 400000 in
theorem sat_any (a b : Int) (w : World) :
    Calls Try.prog 11 #[.int .i64 a, .int .i64 b] w fun e w' => e = .returned (.int .i64 (satF a b)) ∧ w' = w := by
  have hb := clamp_bd b 1 63 (by omega)
  have hp1 := p2_pos ((clamp b 1 63).toNat - 1)
  have hp2 := p2_62 (n := (clamp b 1 63).toNat - 1) (by omega)
  have E1 : Hid (wrap64 (p2 ((clamp b 1 63).toNat - 1)) = p2 ((clamp b 1 63).toNat - 1)) := IntWalk.wrap64_in _ (by omega)
  have E2 : Hid (wrap64 (-p2 ((clamp b 1 63).toNat - 1)) = -p2 ((clamp b 1 63).toNat - 1)) := IntWalk.wrap64_in _ (by omega)
  have E3 : Hid (wrap64 (p2 ((clamp b 1 63).toNat - 1) - 1) = p2 ((clamp b 1 63).toNat - 1) - 1) := IntWalk.wrap64_in _ (by omega)
  clear hp1 hp2
  go_enter Try.func11, Try.ntmps11
  go_wp2_with (go_at_call 28; refine (within_any _ _ _ _ (by omega) (by omega) (by omega)).mono ?_; rintro e w' ⟨rfl, rfl⟩)
  all_goals go_ret
  all_goals simp only [pow_is, E1.out, E2.out, E3.out] at *
  · exact ⟨ret_int (sat_lo ‹_›).symm, trivial⟩
  · exact ⟨ret_int (sat_hi ‹_› ‹_›).symm, trivial⟩
  · exact ⟨ret_int (sat_in ‹_› ‹_›).symm, trivial⟩

set_option maxHeartbeats 400000 in
theorem sat16_any (a : Int) (w : World) :
    Calls Try.prog 13 #[.int .i64 a] w fun e w' => e = .returned (.int .i16 (satF a 16)) ∧ w' = w := by
  have hb := clamp_bd a (-32768) 32767 (by omega)
  go_enter Try.func13, Try.ntmps13
  go_wp2_with (go_at_call 11; refine (sat_any _ _ _).mono ?_; rintro e w' ⟨rfl, rfl⟩; rw [satF_16])
  go_ret
  exact ⟨ret_int (by rw [satF_16]), rfl⟩

set_option maxHeartbeats 400000 in
theorem sat32_any (a : Int) (w : World) :
    Calls Try.prog 14 #[.int .i64 a] w fun e w' => e = .returned (.int .i32 (satF a 32)) ∧ w' = w := by
  have hb := clamp_bd a (-2147483648) 2147483647 (by omega)
  go_enter Try.func14, Try.ntmps14
  go_wp2_with (go_at_call 11; refine (sat_any _ _ _).mono ?_; rintro e w' ⟨rfl, rfl⟩; rw [satF_32])
  go_ret
  exact ⟨ret_int (by rw [satF_32]), rfl⟩

set_option maxHeartbeats 400000 in
theorem round_any (a b : Int) (w : World) (h1 : -9223372036854775808 ≤ a) (h2 : a ≤ 9223372036854775807) :
    Calls Try.prog 15 #[.int .i64 a, .int .i64 b] w fun e w' => e = .returned (.int .i64 (rndF a b)) ∧ w' = w := by
  have hb := clamp_bd b 0 62 (by omega)
  cases hz : (clamp b 0 62 == 0)
  · have F := rnd_some h1 h2 hz
    have FH : Hid _ := F
    clear F
    go_enter Try.func15, Try.ntmps15
    go_wp2_with (go_at_call 28; refine (within_any _ _ _ _ (by omega) (by omega) (by omega)).mono ?_; rintro e w' ⟨rfl, rfl⟩)
    go_ret
    exact ⟨ret_int FH.out, rfl⟩
  · have F := rnd_zero (a := a) (s := b) (by simpa using hz)
    have FH : Hid _ := F
    clear F
    go_enter Try.func15, Try.ntmps15
    go_wp2_with (go_at_call 28; refine (within_any _ _ _ _ (by omega) (by omega) (by omega)).mono ?_; rintro e w' ⟨rfl, rfl⟩)
    go_ret
    exact ⟨ret_int FH.out.symm, rfl⟩

set_option maxHeartbeats 400000 in
theorem mul15_any (a b : Int) (w : World) (h1 : -2147483648 ≤ a) (h2 : a ≤ 2147483647) (h3 : -2147483648 ≤ b) (h4 : b ≤ 2147483647) :
    Calls Try.prog 17 #[.int .i32 a, .int .i32 b] w fun e w' => e = .returned (.int .i32 (mulF a b)) ∧ w' = w := by
  have hm := mul_bd32 h1 h2 h3 h4
  go_enter Try.func17, Try.ntmps17
  go_wp2_with (first | (go_at_call 15; refine (round_any _ _ _ (by omega) (by omega)).mono ?_; rintro e w' ⟨rfl, rfl⟩) | (go_at_call 14; refine (sat32_any _ _).mono ?_; rintro e w' ⟨rfl, rfl⟩))
  go_ret
  exact ⟨rfl, rfl⟩

set_option maxHeartbeats 400000 in
theorem low_any (a b : Int) (w : World) (h1 : 0 ≤ a) (h2 : a ≤ 18446744073709551615) :
    Calls Try.prog 19 #[.int .u64 a, .int .i64 b] w fun e w' => e = .returned (.int .u64 (lowF a b)) ∧ w' = w := by
  have hb := clamp_bd b 0 64 (by omega)
  have F := low_is (n := b) h1 h2
  have FH : Hid _ := F
  clear F
  go_enter Try.func19, Try.ntmps19
  go_wp2_with (go_at_call 28; refine (within_any _ _ _ _ (by omega) (by omega) (by omega)).mono ?_; rintro e w' ⟨rfl, rfl⟩)
  go_ret
  exact ⟨ret_int FH.out, rfl⟩

set_option maxHeartbeats 400000 in
theorem sign_any (a b : Int) (w : World) :
    Calls Try.prog 21 #[.int .u64 a, .int .i64 b] w fun e w' => e = .returned (.int .i64 (sgnF a b)) ∧ w' = w := by
  have hb := clamp_bd b 1 64 (by omega)
  have F := sgn_is a b
  have FH : Hid _ := F
  clear F
  go_enter Try.func21, Try.ntmps21
  go_wp2_with (go_at_call 28; refine (within_any _ _ _ _ (by omega) (by omega) (by omega)).mono ?_; rintro e w' ⟨rfl, rfl⟩)
  go_ret
  exact ⟨ret_int FH.out, rfl⟩

set_option maxHeartbeats 400000 in
theorem zig_any (x : Int) (w : World) (h1 : -9223372036854775808 ≤ x) (h2 : x ≤ 9223372036854775807) :
    Calls Try.prog 23 #[.int .i64 x] w fun e w' => e = .returned (.int .u64 (zigF x)) ∧ w' = w := by
  have F := zig_is h1 h2
  have FH : Hid _ := F
  clear F
  go_enter Try.func23, Try.ntmps23
  go_wp2
  go_ret
  exact ⟨ret_int FH.out, rfl⟩

set_option maxHeartbeats 400000 in
theorem zag_any (x : Int) (w : World) (h1 : 0 ≤ x) (h2 : x ≤ 18446744073709551615) :
    Calls Try.prog 25 #[.int .u64 x] w fun e w' => e = .returned (.int .i64 (zagF x)) ∧ w' = w := by
  have F := zag_is h1 h2
  have FH : Hid _ := F
  clear F
  go_enter Try.func25, Try.ntmps25
  go_wp2
  go_ret
  exact ⟨ret_int FH.out, rfl⟩

set_option maxHeartbeats 400000 in
theorem lcg_any (x : Int) (w : World) :
    Calls Try.prog 26 #[.int .u32 x] w fun e w' => e = .returned (.int .u32 (lcgF x)) ∧ w' = w := by
  go_enter Try.func26, Try.ntmps26
  go_wp2
  go_ret
  exact ⟨ret_int (by unfold lcgF; omega), rfl⟩
end Go.Proofs.Ytlmfhponmllanaa
