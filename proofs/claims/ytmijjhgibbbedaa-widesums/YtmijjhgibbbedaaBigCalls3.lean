/-
  What the document's own answer for layer 2 (spinetref02) gives for 'less' and for a number within two bounds, over eight digits. Contracts for every number of 128 bits with a sign; nothing that was there is turned.
-/
import Derived.Test.YtmijjhgibbbedaaBigCalls2
import Derived.Test.YtmijjhgibbbedaaDigMath2
import Derived.Test.YtmijjhgibbbedaaRows
import Derived.ProofKit
import Derived.OpenShut
import Derived.WalkSpells
import Derived.Handy
import Derived.WalkLawsBesides
import Derived.Below
import Derived.Deep.QuietTactic
import Derived.BigQuiet
import Derived.WalkSmall
import Derived.Deep.RegionHeld3
import Derived.Lib.QuietBelow
namespace Go.Proofs.Ytmijjhgibbbedaa
set_option linter.unusedVariables false
open Go.ChangeShapes Go.WideShapes Go.ChangeAt Go.RowKit
open Go.Sort (grow)
attribute [local go_sem] cell?_gr frozen?_gr setCell_gr size_gr drew_gr drewN_gr redrawn_drew redrawn_drewN redrawn_redrawn gr_gr eql_acc neq_acc eql_big neq_big setCell_drewN alloc_drewN World.drewN_drewN

theorem ret_bool {a b : Bool} (h : a = b) : Ending.returned (.bool a) = .returned (.bool b) := by rw [h]

set_option maxHeartbeats 1000000 in
theorem less_far (a b : Int) (w : World) (h1 : -170141183460469231731687303715884105728 ≤ a) (h2 : a < 170141183460469231731687303715884105728) (h3 : -170141183460469231731687303715884105728 ≤ b) (h4 : b < 170141183460469231731687303715884105728) (hs : decide (32768 ≤ dg a 7) ≠ decide (32768 ≤ dg b 7)) :
    Calls Try.prog 26 #[(.agg #[.int .i64 (dg a 0), .int .i64 (dg a 1), .int .i64 (dg a 2), .int .i64 (dg a 3), .int .i64 (dg a 4), .int .i64 (dg a 5), .int .i64 (dg a 6), .int .i64 (dg a 7)]), (.agg #[.int .i64 (dg b 0), .int .i64 (dg b 1), .int .i64 (dg b 2), .int .i64 (dg b 3), .int .i64 (dg b 4), .int .i64 (dg b 5), .int .i64 (dg b 6), .int .i64 (dg b 7)])] w fun e w' => e = .returned (.bool (decide (a < b))) ∧ Below w.heap.size w w' := by
  have F : Hid (decide (32768 ≤ dg a 7) = decide (a < b)) := by
    show _ = _
    have := minus_is h1 h2
    have := minus_is h3 h4
    by_cases ha : 32768 ≤ dg a 7 <;> by_cases hb : 32768 ≤ dg b 7 <;> simp [ha, hb] at hs ⊢ <;> omega
  have hs' : (decide (32768 ≤ dg a 7) == decide (32768 ≤ dg b 7)) = false := by simpa using hs
  clear hs
  go_enter Try.func26, Try.ntmps26
  go_wp2
  refine wp_region_quiet_below (by kernel_rfl) (by kernel_rfl) ?_
  repeat (go_big_quiet_step ((go_at_call 38; refine Calls.regrown_of (rminus_any _ _))))
  refine wpQuiet_nil ?_
  intro _ hw'
  obtain ⟨⟨dq, osq⟩, hw''⟩ := hw'
  subst hw''
  go_wp2_with (go_at_call 38; refine (rminus_any _ _).mono ?_; rintro e w1 ⟨rfl, hb⟩; obtain ⟨d1, os1, rfl⟩ := more_of hb)
  go_ret
  exact ⟨ret_bool F.out, below_gr (by go_grown) (by go_size) _ _⟩

set_option maxHeartbeats 2000000 in
theorem less_near (a b : Int) (w : World) (h1 : -170141183460469231731687303715884105728 ≤ a) (h2 : a < 170141183460469231731687303715884105728) (h3 : -170141183460469231731687303715884105728 ≤ b) (h4 : b < 170141183460469231731687303715884105728) (hs : decide (32768 ≤ dg a 7) = decide (32768 ≤ dg b 7)) :
    Calls Try.prog 26 #[(.agg #[.int .i64 (dg a 0), .int .i64 (dg a 1), .int .i64 (dg a 2), .int .i64 (dg a 3), .int .i64 (dg a 4), .int .i64 (dg a 5), .int .i64 (dg a 6), .int .i64 (dg a 7)]), (.agg #[.int .i64 (dg b 0), .int .i64 (dg b 1), .int .i64 (dg b 2), .int .i64 (dg b 3), .int .i64 (dg b 4), .int .i64 (dg b 5), .int .i64 (dg b 6), .int .i64 (dg b 7)])] w fun e w' => e = .returned (.bool (decide (a < b))) ∧ Below w.heap.size w w' := by
  have S : Hid (a / p2 128 = b / p2 128) := by
    refine same_sign h1 h2 h3 h4 ?_
    rw [← minus_is h1 h2, ← minus_is h3 h4]
    simpa using hs
  have hs' : (decide (32768 ≤ dg a 7) == decide (32768 ≤ dg b 7)) = true := by simpa using hs
  clear hs
  go_enter Try.func26, Try.ntmps26
  go_wp2
  refine wp_region_quiet_below (by kernel_rfl) (by kernel_rfl) ?_
  repeat (go_big_quiet_step ((go_at_call 38; refine Calls.regrown_of (rminus_any _ _))))
  refine wpQuiet_nil ?_
  intro _ hw'
  obtain ⟨⟨dq, osq⟩, hw''⟩ := hw'
  subst hw''
  go_wp2
  refine wp_loop_rounds 9 ?_
  rw [rounds_succ]
  cases e7 : (dg a 7 == dg b 7)
  · go_wp2
    go_quiet (fail)
    go_wp2
    go_quiet (fail)
    go_wp2
    go_ret
    refine ⟨ret_bool (less_7 S.out e7), ?_⟩
    repeat' (first | (with_reducible exact Below.refl _ _) | (with_reducible refine below_gr ?_ ?_ _ _) | (with_reducible refine below_drewN ?_ _) | (with_reducible refine Below.alloc ?_ ?_ _) | go_size)
  go_wp2
  go_quiet (fail)
  go_wp2
  rw [rounds_succ]
  cases e6 : (dg a 6 == dg b 6)
  · go_wp2
    go_quiet (fail)
    go_wp2
    go_quiet (fail)
    go_wp2
    go_ret
    refine ⟨ret_bool (less_6 S.out e7 e6), ?_⟩
    repeat' (first | (with_reducible exact Below.refl _ _) | (with_reducible refine below_gr ?_ ?_ _ _) | (with_reducible refine below_drewN ?_ _) | (with_reducible refine Below.alloc ?_ ?_ _) | go_size)
  go_wp2
  go_quiet (fail)
  go_wp2
  rw [rounds_succ]
  cases e5 : (dg a 5 == dg b 5)
  · go_wp2
    go_quiet (fail)
    go_wp2
    go_quiet (fail)
    go_wp2
    go_ret
    refine ⟨ret_bool (less_5 S.out e7 e6 e5), ?_⟩
    repeat' (first | (with_reducible exact Below.refl _ _) | (with_reducible refine below_gr ?_ ?_ _ _) | (with_reducible refine below_drewN ?_ _) | (with_reducible refine Below.alloc ?_ ?_ _) | go_size)
  go_wp2
  go_quiet (fail)
  go_wp2
  rw [rounds_succ]
  cases e4 : (dg a 4 == dg b 4)
  · go_wp2
    go_quiet (fail)
    go_wp2
    go_quiet (fail)
    go_wp2
    go_ret
    refine ⟨ret_bool (less_4 S.out e7 e6 e5 e4), ?_⟩
    repeat' (first | (with_reducible exact Below.refl _ _) | (with_reducible refine below_gr ?_ ?_ _ _) | (with_reducible refine below_drewN ?_ _) | (with_reducible refine Below.alloc ?_ ?_ _) | go_size)
  go_wp2
  go_quiet (fail)
  go_wp2
  rw [rounds_succ]
  cases e3 : (dg a 3 == dg b 3)
  · go_wp2
    go_quiet (fail)
    go_wp2
    go_quiet (fail)
    go_wp2
    go_ret
    refine ⟨ret_bool (less_3 S.out e7 e6 e5 e4 e3), ?_⟩
    repeat' (first | (with_reducible exact Below.refl _ _) | (with_reducible refine below_gr ?_ ?_ _ _) | (with_reducible refine below_drewN ?_ _) | (with_reducible refine Below.alloc ?_ ?_ _) | go_size)
  go_wp2
  go_quiet (fail)
  go_wp2
  rw [rounds_succ]
  cases e2 : (dg a 2 == dg b 2)
  · go_wp2
    go_quiet (fail)
    go_wp2
    go_quiet (fail)
    go_wp2
    go_ret
    refine ⟨ret_bool (less_2 S.out e7 e6 e5 e4 e3 e2), ?_⟩
    repeat' (first | (with_reducible exact Below.refl _ _) | (with_reducible refine below_gr ?_ ?_ _ _) | (with_reducible refine below_drewN ?_ _) | (with_reducible refine Below.alloc ?_ ?_ _) | go_size)
  go_wp2
  go_quiet (fail)
  go_wp2
  rw [rounds_succ]
  cases e1 : (dg a 1 == dg b 1)
  · go_wp2
    go_quiet (fail)
    go_wp2
    go_quiet (fail)
    go_wp2
    go_ret
    refine ⟨ret_bool (less_1 S.out e7 e6 e5 e4 e3 e2 e1), ?_⟩
    repeat' (first | (with_reducible exact Below.refl _ _) | (with_reducible refine below_gr ?_ ?_ _ _) | (with_reducible refine below_drewN ?_ _) | (with_reducible refine Below.alloc ?_ ?_ _) | go_size)
  go_wp2
  go_quiet (fail)
  go_wp2
  rw [rounds_succ]
  cases e0 : (dg a 0 == dg b 0)
  · go_wp2
    go_quiet (fail)
    go_wp2
    go_quiet (fail)
    go_wp2
    go_ret
    refine ⟨ret_bool (less_0 S.out e7 e6 e5 e4 e3 e2 e1 e0), ?_⟩
    repeat' (first | (with_reducible exact Below.refl _ _) | (with_reducible refine below_gr ?_ ?_ _ _) | (with_reducible refine below_drewN ?_ _) | (with_reducible refine Below.alloc ?_ ?_ _) | go_size)
  go_wp2
  go_quiet (fail)
  go_wp2
  rw [rounds_succ]
  go_wp2
  go_ret
  refine ⟨ret_bool (less_no S.out e7 e6 e5 e4 e3 e2 e1 e0), ?_⟩
  repeat' (first | (with_reducible exact Below.refl _ _) | (with_reducible refine below_gr ?_ ?_ _ _) | (with_reducible refine below_drewN ?_ _) | (with_reducible refine Below.alloc ?_ ?_ _) | go_size)

theorem rless_any (a b : Int) (w : World) (h1 : -170141183460469231731687303715884105728 ≤ a) (h2 : a < 170141183460469231731687303715884105728) (h3 : -170141183460469231731687303715884105728 ≤ b) (h4 : b < 170141183460469231731687303715884105728) :
    Calls Try.prog 26 #[(.agg #[.int .i64 (dg a 0), .int .i64 (dg a 1), .int .i64 (dg a 2), .int .i64 (dg a 3), .int .i64 (dg a 4), .int .i64 (dg a 5), .int .i64 (dg a 6), .int .i64 (dg a 7)]), (.agg #[.int .i64 (dg b 0), .int .i64 (dg b 1), .int .i64 (dg b 2), .int .i64 (dg b 3), .int .i64 (dg b 4), .int .i64 (dg b 5), .int .i64 (dg b 6), .int .i64 (dg b 7)])] w fun e w' => e = .returned (.bool (decide (a < b))) ∧ Below w.heap.size w w' := by
  by_cases hs : decide (32768 ≤ dg a 7) = decide (32768 ≤ dg b 7)
  · exact less_near a b w h1 h2 h3 h4 hs
  · exact less_far a b w h1 h2 h3 h4 hs

set_option maxHeartbeats 1000000 in
theorem held_big (a x y : Int) (w : World) (h1 : -170141183460469231731687303715884105728 ≤ a) (h2 : a < 170141183460469231731687303715884105728) (h3 : -170141183460469231731687303715884105728 ≤ x) (h4 : x < 170141183460469231731687303715884105728) (h5 : -170141183460469231731687303715884105728 ≤ y) (h6 : y < 170141183460469231731687303715884105728) :
    Calls Try.prog 31 #[(.agg #[.int .i64 (dg a 0), .int .i64 (dg a 1), .int .i64 (dg a 2), .int .i64 (dg a 3), .int .i64 (dg a 4), .int .i64 (dg a 5), .int .i64 (dg a 6), .int .i64 (dg a 7)]), (.agg #[.int .i64 (dg x 0), .int .i64 (dg x 1), .int .i64 (dg x 2), .int .i64 (dg x 3), .int .i64 (dg x 4), .int .i64 (dg x 5), .int .i64 (dg x 6), .int .i64 (dg x 7)]), (.agg #[.int .i64 (dg y 0), .int .i64 (dg y 1), .int .i64 (dg y 2), .int .i64 (dg y 3), .int .i64 (dg y 4), .int .i64 (dg y 5), .int .i64 (dg y 6), .int .i64 (dg y 7)])] w fun e w' => e = .returned (.agg #[.int .i64 (dg (clamp a x y) 0), .int .i64 (dg (clamp a x y) 1), .int .i64 (dg (clamp a x y) 2), .int .i64 (dg (clamp a x y) 3), .int .i64 (dg (clamp a x y) 4), .int .i64 (dg (clamp a x y) 5), .int .i64 (dg (clamp a x y) 6), .int .i64 (dg (clamp a x y) 7)]) ∧ Below w.heap.size w w' := by
  by_cases hx : a < x
  · have F : Hid (clamp a x y = x) := by show _ = _; unfold clamp; rw [if_pos hx]
    go_enter Try.func31, Try.ntmps31
    go_wp2_with fail
    refine (rless_any _ _ _ h1 h2 h3 h4).mono ?_; rintro e w1 ⟨rfl, hb⟩; obtain ⟨d1, os1, rfl⟩ := more_of hb
    go_wp2
    go_returns
    exact ⟨by rw [F.out], below_gr (by go_grown) (by go_size) _ _⟩
  · by_cases hy : y < a
    · have F : Hid (clamp a x y = y) := by show _ = _; unfold clamp; rw [if_neg hx, if_pos hy]
      go_enter Try.func31, Try.ntmps31
      go_wp2_with fail
      refine (rless_any _ _ _ h1 h2 h3 h4).mono ?_; rintro e w1 ⟨rfl, hb⟩; obtain ⟨d1, os1, rfl⟩ := more_of hb
      go_wp2_with fail
      refine (rless_any _ _ _ h5 h6 h1 h2).mono ?_; rintro e w1 ⟨rfl, hb⟩; obtain ⟨d2, os2, rfl⟩ := more_of hb
      go_wp2
      go_returns
      exact ⟨by rw [F.out], below_gr (by go_grown) (by go_size) _ _⟩
    · have F : Hid (clamp a x y = a) := by show _ = _; unfold clamp; rw [if_neg hx, if_neg hy]
      go_enter Try.func31, Try.ntmps31
      go_wp2_with fail
      refine (rless_any _ _ _ h1 h2 h3 h4).mono ?_; rintro e w1 ⟨rfl, hb⟩; obtain ⟨d1, os1, rfl⟩ := more_of hb
      go_wp2_with fail
      refine (rless_any _ _ _ h5 h6 h1 h2).mono ?_; rintro e w1 ⟨rfl, hb⟩; obtain ⟨d2, os2, rfl⟩ := more_of hb
      go_wp2
      go_returns
      exact ⟨by rw [F.out], below_gr (by go_grown) (by go_size) _ _⟩
end Go.Proofs.Ytmijjhgibbbedaa
