/-
  The law WideLaws of layer 2 as a walk: at every input of its types it returns true, and nothing that was there has turned.
-/
import Derived.Test.YtmijjhgibbbedaaWideLaws1
import Derived.Test.YtmijjhgibbbedaaRefCalls
import Derived.Test.YtmijjhgibbbedaaRows
import Derived.ProofKit
import Derived.OpenShut
import Derived.WalkSpells
import Derived.Handy
import Derived.WalkLawsBesides
import Derived.Below
import Derived.Deep.QuietTactic
import Derived.BigQuiet
import Derived.WalkSmall
import Derived.Deep.RegionHeld3
import Derived.Deep.DeepCutAuto
import Derived.Test.YtmijjhgibbbedaaMore2
import Derived.Lib.QuietBelow
namespace Go.Proofs.Ytmijjhgibbbedaa
set_option linter.unusedVariables false
open Go.ChangeShapes Go.WideShapes Go.ChangeAt Go.RowKit
open Go.Sort (grow)
attribute [local go_sem] cell?_gr frozen?_gr setCell_gr size_gr drew_gr drewN_gr heap_redrawn redrawn_drew redrawn_drewN redrawn_redrawn gr_gr eql_acc neq_acc equal_big setCell_drewN alloc_drewN World.drewN_drewN Array.size_append
attribute [local go_sem] lt_1 lt_11 lt_2 lt_21 lt_3 lt_31 lt_4 lt_41 lt_5 lt_51 lt_6 lt_61


theorem plus_as (a b c : Int) (w : World) (h : a + b = c) :
    Calls Try.prog 11 #[(.agg #[.int .i64 (hiW a), .int .u64 (loW a)]), (.agg #[.int .i64 (hiW b), .int .u64 (loW b)])] w fun e w' => e = .returned (.agg #[.int .i64 (hiW c), .int .u64 (loW c)]) ∧ Below w.heap.size w w' := by
  subst h; exact plus_any a b w
theorem minus_as (a b c : Int) (w : World) (h : a + -b = c) :
    Calls Try.prog 13 #[(.agg #[.int .i64 (hiW a), .int .u64 (loW a)]), (.agg #[.int .i64 (hiW b), .int .u64 (loW b)])] w fun e w' => e = .returned (.agg #[.int .i64 (hiW c), .int .u64 (loW c)]) ∧ Below w.heap.size w w' := by
  subst h; exact minus_any a b w
theorem cmp_as (a b c : Int) (w : World) (h1 : -170141183460469231731687303715884105728 ≤ a) (h2 : a < 170141183460469231731687303715884105728) (h3 : -170141183460469231731687303715884105728 ≤ b) (h4 : b < 170141183460469231731687303715884105728) (h : cmpF a b = c) :
    Calls Try.prog 29 #[(.agg #[.int .i64 (hiW a), .int .u64 (loW a)]), (.agg #[.int .i64 (hiW b), .int .u64 (loW b)])] w fun e w' => e = .returned (.int .i64 c) ∧ Below w.heap.size w w' := by
  subst h; exact cmp_any a b w h1 h2 h3 h4
theorem cmp_back (a b : Int) : cmpF b a = -cmpF a b := by unfold cmpF; split <;> (try split) <;> (try split) <;> omega
theorem cmp_self (a : Int) : cmpF a a = 0 := by unfold cmpF; simp

set_option maxHeartbeats 2000000 in
theorem laws_law (a b n : Int) (w : World) (h1 : -170141183460469231731687303715884105728 ≤ a) (h2 : a < 170141183460469231731687303715884105728) (h3 : -170141183460469231731687303715884105728 ≤ b) (h4 : b < 170141183460469231731687303715884105728) (h5 : -9223372036854775808 ≤ n) (h6 : n ≤ 9223372036854775807) :
    Calls Try.prog 7 #[(.agg #[.int .i64 (hiW a), .int .u64 (loW a)]), (.agg #[.int .i64 (hiW b), .int .u64 (loW b)]), .int .i64 n] w fun e w' => e = .returned (.bool true) ∧ Below w.heap.size w w' := by
  have z1 : hiW 0 = 0 := by unfold hiW; omega
  have z2 : loW 0 = 0 := by unfold loW; omega
  have hc : -1 ≤ cmpF a b ∧ cmpF a b ≤ 1 := by unfold cmpF; split <;> (try split) <;> omega
  go_enter Try.func7, Try.ntmps7
  go_wp2_with (first | (go_at_call 9; refine (awake_w _).mono ?_; rintro e w0 ⟨rfl, hb0⟩; obtain ⟨d0, os0, rfl⟩ := more_of hb0) | (go_at_call 16; refine (of_any _ _ h5 h6).mono ?_; rintro e w1 ⟨rfl, hb⟩; obtain ⟨d1, os1, rfl⟩ := more_of hb))
  simp only [List.append]
  refine wp_region_quiet_below (by kernel_rfl) (by kernel_rfl) ?_
  repeat (go_big_quiet_step (fail))
  go_big_quiet_step ((go_at_call 11; refine Calls.regrown_of (plus_any _ _ _)))
  repeat (go_big_quiet_step (fail))
  go_big_quiet_step ((go_at_call 11; refine Calls.regrown_of (plus_as b a (a + b) _ (Int.add_comm b a))))
  repeat (go_big_quiet_step (fail))
  go_big_quiet_step ((go_at_call 11; refine Calls.regrown_of (plus_any _ _ _)))
  repeat (go_big_quiet_step (fail))
  go_big_quiet_step ((go_at_call 11; refine Calls.regrown_of (plus_any _ _ _)))
  repeat (go_big_quiet_step (fail))
  go_big_quiet_step ((go_at_call 11; refine Calls.regrown_of (plus_any _ _ _)))
  repeat (go_big_quiet_step (fail))
  go_big_quiet_step ((go_at_call 11; refine Calls.regrown_of (plus_as a (b + n) (a + b + n) _ (by omega))))
  repeat (go_big_quiet_step (fail))
  go_big_quiet_step ((go_at_call 11; refine Calls.regrown_of (plus_any _ _ _)))
  repeat (go_big_quiet_step (fail))
  go_big_quiet_step ((go_at_call 13; refine Calls.regrown_of (minus_as (a + b) b a _ (by omega))))
  repeat (go_big_quiet_step (fail))
  go_big_quiet_step ((go_at_call 15; refine Calls.regrown_of (neg_any _ _)))
  repeat (go_big_quiet_step (fail))
  go_big_quiet_step ((go_at_call 11; refine Calls.regrown_of (plus_as a (-a) 0 _ (by omega))))
  repeat (go_big_quiet_step (fail))
  go_big_quiet_step ((go_at_call 11; refine Calls.regrown_of (plus_any _ _ _)))
  repeat (go_big_quiet_step (fail))
  go_big_quiet_step ((go_at_call 18; refine Calls.regrown_of (times_any _ _ _ h5 h6)))
  repeat (go_big_quiet_step (fail))
  go_big_quiet_step ((go_at_call 18; refine Calls.regrown_of (times_any _ _ _ h5 h6)))
  repeat (go_big_quiet_step (fail))
  go_big_quiet_step ((go_at_call 18; refine Calls.regrown_of (times_any _ _ _ h5 h6)))
  repeat (go_big_quiet_step (fail))
  go_big_quiet_step ((go_at_call 11; refine Calls.regrown_of (plus_as (a * n) (b * n) ((a + b) * n) _ (Int.add_mul a b n).symm)))
  repeat (go_big_quiet_step (fail))
  go_big_quiet_step ((go_at_call 29; refine Calls.regrown_of (cmp_any _ _ _ h1 h2 h3 h4)))
  repeat (go_big_quiet_step (fail))
  go_big_quiet_step ((go_at_call 29; refine Calls.regrown_of (cmp_as b a (-cmpF a b) _ h3 h4 h1 h2 (cmp_back a b))))
  repeat (go_big_quiet_step (fail))
  go_big_quiet_step ((go_at_call 29; refine Calls.regrown_of (cmp_as a a 0 _ h1 h2 h1 h2 (cmp_self a))))
  repeat (go_big_quiet_step (fail))
  refine wpQuiet_nil ?_
  intro _ hw'
  obtain ⟨⟨dq, osq⟩, hw''⟩ := hw'
  subst hw''
  go_wp2
  go_ret
  refine ⟨rfl, ?_⟩
  repeat' (first | (with_reducible exact Below.refl _ _) | (with_reducible refine below_gr ?_ ?_ _ _) | (with_reducible refine below_drewN ?_ _) | (with_reducible refine Below.drew ?_) | (with_reducible refine Below.alloc ?_ ?_ _) | (with_reducible exact Nat.le_refl _) | (simp only [size_gr, World.size_alloc]; omega))
end Go.Proofs.Ytmijjhgibbbedaa
