/-
  The law WideSums of layer 2 as a walk, for a list that is too long, and for one without numbers: it returns true, and nothing that was there has turned.
-/
import Derived.Test.YtmijjhgibbbedaaWideLaws4
import Derived.Test.YtmijjhgibbbedaaRefCalls
import Derived.Test.YtmijjhgibbbedaaRows
import Derived.ProofKit
import Derived.OpenShut
import Derived.WalkSpells
import Derived.Handy
import Derived.WalkLawsBesides
import Derived.Below
import Derived.Deep.QuietTactic
import Derived.BigQuiet
import Derived.WalkSmall
import Derived.Deep.RegionHeld3
import Derived.Deep.DeepCutAuto
import Derived.Test.YtmijjhgibbbedaaMore2
import Derived.Lib.QuietBelow
namespace Go.Proofs.Ytmijjhgibbbedaa
set_option linter.unusedVariables false
open Go.ChangeShapes Go.WideShapes Go.ChangeAt Go.RowKit
open Go.Sort (grow)
attribute [local go_sem] cell?_gr frozen?_gr setCell_gr size_gr drew_gr drewN_gr heap_redrawn redrawn_drew redrawn_drewN redrawn_redrawn gr_gr eql_acc neq_acc equal_big setCell_drewN alloc_drewN World.drewN_drewN Array.size_append
attribute [local go_sem] lt_1 lt_11 lt_2 lt_21 lt_3 lt_31 lt_4 lt_41 lt_5 lt_51 lt_6 lt_61

theorem sum_nil (ao : Option Addr) (cap : Nat) (w : World) :
    Calls Try.prog 32 #[.slice ao 0 cap] w fun e w' => e = .returned (.agg #[.int .i64 (hiW 0), .int .u64 (loW 0)]) ∧ Below w.heap.size w w' :=
  sum_any ao 0 cap (fun _ => 0) w (by omega) (fun i hi => by omega)

set_option maxHeartbeats 400000 in
theorem sums_long (ao : Option Addr) (n cap : Nat) (at' : Int) (w : World) (hn : 60 < n) :
    Calls Try.prog 8 #[.slice ao n cap, .int .u8 at'] w fun e w' => e = .returned (.bool true) ∧ Below w.heap.size w w' := by
  have hn' : (60 : Int) < (n : Int) := by omega
  go_enter Try.func8, Try.ntmps8
  go_wp2_with (go_at_call 9; refine (awake_w _).mono ?_; rintro e W0 ⟨rfl, hB0⟩)
  go_ret
  exact ⟨rfl, hB0⟩

set_option maxHeartbeats 1000000 in
theorem sums_nil (at' : Int) (w : World) (ha1 : 0 ≤ at') (ha2 : at' ≤ 255) :
    Calls Try.prog 8 #[.slice none 0 0, .int .u8 at'] w fun e w' => e = .returned (.bool true) ∧ Below w.heap.size w w' := by
  go_enter Try.func8, Try.ntmps8
  go_wp2_with (go_at_call 9; refine (awake_w _).mono ?_; rintro e W0 ⟨rfl, hB0⟩)
  rw [want_start]
  refine wp_loop_rounds 1 ?_
  rw [rounds_succ]
  go_upto_region 13 with fail
  go_cut [8] (fun q wc => q = .int .i64 0 ∧ wc = W0.alloc (.cells #[.int .i64 (dg 0 0), .int .i64 (dg 0 1), .int .i64 (dg 0 2), .int .i64 (dg 0 3), .int .i64 (dg 0 4), .int .i64 (dg 0 5), .int .i64 (dg 0 6), .int .i64 (dg 0 7)] 27))
  case first =>
    go_wp2
    all_goals go_meet
    all_goals first | exact ⟨rfl, rfl⟩ | exact ⟨by rw [show at' = 0 by omega], rfl⟩
  case rest =>
    obtain ⟨rfl, rfl⟩ := hcut
    go_wp2
    refine wp_region_quiet_below (by kernel_rfl) (by kernel_rfl) ?_
    repeat (go_big_quiet_step (first | (go_at_call 32; refine Calls.regrown_of (sum_nil _ _ _)) | (go_at_call 10; refine Calls.regrown_of (big_any _ _)) | (go_at_call 11; refine Calls.regrown_of (plus_as 0 0 0 _ rfl))))
    refine wpQuiet_nil ?_
    intro _ hw'
    obtain ⟨⟨dq, osq⟩, hw''⟩ := hw'
    subst hw''
    go_wp2
    all_goals go_ret
    all_goals exact ⟨rfl, below_gr (hB0.alloc hB0.size _) (by have h1 := hB0.size; simp; omega) _ _⟩

set_option maxHeartbeats 1000000 in
theorem sums_none (a : Addr) (at' : Int) (w : World) (ha1 : 0 ≤ at') (ha2 : at' ≤ 255) :
    Calls Try.prog 8 #[.slice (some a) 0 0, .int .u8 at'] w fun e w' => e = .returned (.bool true) ∧ Below w.heap.size w w' := by
  go_enter Try.func8, Try.ntmps8
  go_wp2_with (go_at_call 9; refine (awake_w _).mono ?_; rintro e W0 ⟨rfl, hB0⟩)
  rw [want_start]
  refine wp_loop_rounds 1 ?_
  rw [rounds_succ]
  go_upto_region 13 with fail
  go_cut [8] (fun q wc => q = .int .i64 0 ∧ wc = W0.alloc (.cells #[.int .i64 (dg 0 0), .int .i64 (dg 0 1), .int .i64 (dg 0 2), .int .i64 (dg 0 3), .int .i64 (dg 0 4), .int .i64 (dg 0 5), .int .i64 (dg 0 6), .int .i64 (dg 0 7)] 27))
  case first =>
    go_wp2
    all_goals go_meet
    all_goals first | exact ⟨rfl, rfl⟩ | exact ⟨by rw [show at' = 0 by omega], rfl⟩
  case rest =>
    obtain ⟨rfl, rfl⟩ := hcut
    go_wp2
    refine wp_region_quiet_below (by kernel_rfl) (by kernel_rfl) ?_
    repeat (go_big_quiet_step (first | (go_at_call 32; refine Calls.regrown_of (sum_nil _ _ _)) | (go_at_call 10; refine Calls.regrown_of (big_any _ _)) | (go_at_call 11; refine Calls.regrown_of (plus_as 0 0 0 _ rfl))))
    refine wpQuiet_nil ?_
    intro _ hw'
    obtain ⟨⟨dq, osq⟩, hw''⟩ := hw'
    subst hw''
    go_wp2
    all_goals go_ret
    all_goals exact ⟨rfl, below_gr (hB0.alloc hB0.size _) (by have h1 := hB0.size; simp; omega) _ _⟩

end Go.Proofs.Ytmijjhgibbbedaa
