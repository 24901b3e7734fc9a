/-
  The laws WideAdds, WideMuls and WideShifts of layer 2 as walks: at every input of their types each returns true, and nothing that was there has turned.
-/
import Derived.Test.YtmijjhgibbbedaaBigCalls4
import Derived.Test.YtmijjhgibbbedaaRefCalls
import Derived.Test.YtmijjhgibbbedaaRows
import Derived.ProofKit
import Derived.OpenShut
import Derived.WalkSpells
import Derived.Handy
import Derived.WalkLawsBesides
import Derived.Below
import Derived.Deep.QuietTactic
import Derived.BigQuiet
import Derived.WalkSmall
import Derived.Deep.RegionHeld3
import Derived.Deep.DeepCutAuto
import Derived.Test.YtmijjhgibbbedaaMore2
import Derived.Lib.QuietBelow
namespace Go.Proofs.Ytmijjhgibbbedaa
set_option linter.unusedVariables false
open Go.ChangeShapes Go.WideShapes Go.ChangeAt Go.RowKit
open Go.Sort (grow)
attribute [local go_sem] cell?_gr frozen?_gr setCell_gr size_gr drew_gr drewN_gr heap_redrawn redrawn_drew redrawn_drewN redrawn_redrawn gr_gr eql_acc neq_acc equal_big setCell_drewN alloc_drewN World.drewN_drewN Array.size_append
attribute [local go_sem] lt_1 lt_11 lt_2 lt_21 lt_3 lt_31 lt_4 lt_41 lt_5 lt_51 lt_6 lt_61

theorem rshr_int (a k : Int) (w : World) (hk1 : 0 ≤ k) (hk2 : k ≤ 127) (h1 : -170141183460469231731687303715884105728 ≤ a) (h2 : a < 170141183460469231731687303715884105728) :
    Calls Try.prog 23 #[(.agg #[.int .i64 (dg a 0), .int .i64 (dg a 1), .int .i64 (dg a 2), .int .i64 (dg a 3), .int .i64 (dg a 4), .int .i64 (dg a 5), .int .i64 (dg a 6), .int .i64 (dg a 7)]), .int .i64 k] w fun e w' => e = .returned (.agg #[.int .i64 (dg (a / p2 k.toNat) 0), .int .i64 (dg (a / p2 k.toNat) 1), .int .i64 (dg (a / p2 k.toNat) 2), .int .i64 (dg (a / p2 k.toNat) 3), .int .i64 (dg (a / p2 k.toNat) 4), .int .i64 (dg (a / p2 k.toNat) 5), .int .i64 (dg (a / p2 k.toNat) 6), .int .i64 (dg (a / p2 k.toNat) 7)]) ∧ Below w.heap.size w w' := by
  obtain ⟨n, rfl⟩ := Int.eq_ofNat_of_zero_le hk1
  exact rshr_any a n w (by omega) h1 h2

set_option maxHeartbeats 1500000 in
theorem adds_law (a b x : Int) (w : World) (h1 : -9223372036854775808 ≤ x) (h2 : x ≤ 9223372036854775807) :
    Calls Try.prog 3 #[(.agg #[.int .i64 (hiW a), .int .u64 (loW a)]), (.agg #[.int .i64 (hiW b), .int .u64 (loW b)]), .int .i64 x] w fun e w' => e = .returned (.bool true) ∧ Below w.heap.size w w' := by
  go_enter Try.func3, Try.ntmps3
  go_wp2_with (go_at_call 9; refine (awake_w _).mono ?_; rintro e w0 ⟨rfl, hb0⟩; obtain ⟨d0, os0, rfl⟩ := more_of hb0)
  go_cut [7, 8] (fun p q wc => ∃ bp bq : Nat, p = .pointer (some ⟨bp, 0, none⟩) ∧ q = .pointer (some ⟨bq, 0, none⟩) ∧ bp < wc.heap.size ∧ bq < wc.heap.size ∧ w.heap.size < wc.heap.size ∧ w.heap.size + 1 < wc.heap.size ∧ wc.cell? ⟨w.heap.size, 0, none⟩ = some (.int .i64 (hiW a)) ∧ wc.cell? ⟨w.heap.size, 1, none⟩ = some (.int .u64 (loW a)) ∧ wc.cell? ⟨w.heap.size + 1, 0, none⟩ = some (.int .i64 (hiW b)) ∧ wc.cell? ⟨w.heap.size + 1, 1, none⟩ = some (.int .u64 (loW b)) ∧ wc.cell? ⟨bp, 0, none⟩ = some (.int .i64 (dg a 0)) ∧ wc.cell? ⟨bp, 1, none⟩ = some (.int .i64 (dg a 1)) ∧ wc.cell? ⟨bp, 2, none⟩ = some (.int .i64 (dg a 2)) ∧ wc.cell? ⟨bp, 3, none⟩ = some (.int .i64 (dg a 3)) ∧ wc.cell? ⟨bp, 4, none⟩ = some (.int .i64 (dg a 4)) ∧ wc.cell? ⟨bp, 5, none⟩ = some (.int .i64 (dg a 5)) ∧ wc.cell? ⟨bp, 6, none⟩ = some (.int .i64 (dg a 6)) ∧ wc.cell? ⟨bp, 7, none⟩ = some (.int .i64 (dg a 7)) ∧ wc.cell? ⟨bq, 0, none⟩ = some (.int .i64 (dg b 0)) ∧ wc.cell? ⟨bq, 1, none⟩ = some (.int .i64 (dg b 1)) ∧ wc.cell? ⟨bq, 2, none⟩ = some (.int .i64 (dg b 2)) ∧ wc.cell? ⟨bq, 3, none⟩ = some (.int .i64 (dg b 3)) ∧ wc.cell? ⟨bq, 4, none⟩ = some (.int .i64 (dg b 4)) ∧ wc.cell? ⟨bq, 5, none⟩ = some (.int .i64 (dg b 5)) ∧ wc.cell? ⟨bq, 6, none⟩ = some (.int .i64 (dg b 6)) ∧ wc.cell? ⟨bq, 7, none⟩ = some (.int .i64 (dg b 7)) ∧ Below w.heap.size w wc)
  case first =>
    go_region_held3 (fun w' => w'.cell? ⟨w.heap.size, 0, none⟩ = some (.int .i64 (hiW a)) ∧ w'.cell? ⟨w.heap.size, 1, none⟩ = some (.int .u64 (loW a)) ∧ w'.cell? ⟨w.heap.size + 1, 0, none⟩ = some (.int .i64 (hiW b)) ∧ w'.cell? ⟨w.heap.size + 1, 1, none⟩ = some (.int .u64 (loW b))) (simp [go_sem])
      ((go_at_call 10; refine (big_any _ _).mono ?_; rintro e w1 ⟨rfl, hb⟩; obtain ⟨d1, os1, rfl⟩ := more_of hb))
    all_goals (try go_wp2)
    all_goals go_meet
    all_goals
      refine ⟨_, _, rfl, rfl, ?_, ?_, ?_, ?_, ?_, ?_, ?_, ?_, ?_, ?_, ?_, ?_, ?_, ?_, ?_, ?_, ?_, ?_, ?_, ?_, ?_, ?_, ?_, ?_, ?_⟩
      case refine_25 => repeat' (first | (with_reducible exact Below.refl _ _) | (with_reducible refine below_gr ?_ ?_ _ _) | (with_reducible refine below_drewN ?_ _) | (with_reducible refine Below.drew ?_) | (with_reducible refine Below.alloc ?_ ?_ _) | (with_reducible exact Nat.le_refl _) | (simp only [size_gr, World.size_alloc]; omega))
    all_goals (first | (simp only [size_gr, World.size_alloc, Array.size_append]; omega) | (simp [go_sem]; done))
  case rest =>
    obtain ⟨bp, bq, rfl, rfl, zp, zq, z0, z1, c0, c1, c2, c3, p0, p1, p2, p3, p4, p5, p6, p7, q0, q1, q2, q3, q4, q5, q6, q7, hB⟩ := hcut
    go_wp2
    refine wp_region_quiet_below (by kernel_rfl) (by kernel_rfl) ?_
    repeat (go_big_quiet_step (first | (go_at_call 11; refine Calls.regrown_of (plus_any _ _ _)) | (go_at_call 13; refine Calls.regrown_of (minus_any _ _ _)) | (go_at_call 15; refine Calls.regrown_of (neg_any _ _)) | (go_at_call 10; refine Calls.regrown_of (big_any _ _)) | (go_at_call 12; refine Calls.regrown_of (add_any _ _ _)) | (go_at_call 14; refine Calls.regrown_of (rneg_any _ _)) | (go_at_call 16; refine Calls.regrown_of (of_any _ _ (by omega) (by omega))) | (go_at_call 17; refine Calls.regrown_of (number_any _ _ (by omega) (by omega)))))
    refine wpQuiet_nil ?_
    intro _ hw'
    obtain ⟨⟨dq, osq⟩, hw''⟩ := hw'
    subst hw''
    go_wp2
    go_ret
    exact ⟨rfl, below_gr hB (by have := hB.size; omega) _ _⟩
set_option maxHeartbeats 2000000 in
theorem muls_law (a n m : Int) (w : World) (h1 : -9223372036854775808 ≤ n) (h2 : n ≤ 9223372036854775807) (h3 : -9223372036854775808 ≤ m) (h4 : m ≤ 9223372036854775807) :
    Calls Try.prog 4 #[(.agg #[.int .i64 (hiW a), .int .u64 (loW a)]), .int .i64 n, .int .i64 m] w fun e w' => e = .returned (.bool true) ∧ Below w.heap.size w w' := by
  go_enter Try.func4, Try.ntmps4
  go_wp2_with (go_at_call 9; refine (awake_w _).mono ?_; rintro e w0 ⟨rfl, hb0⟩; obtain ⟨d0, os0, rfl⟩ := more_of hb0)
  refine wp_region_quiet_below (by kernel_rfl) (by kernel_rfl) ?_
  repeat (go_big_quiet_step (first | (go_at_call 18; refine regrown_more (times_any _ _ _ (by omega) (by omega))) | (go_at_call 10; refine regrown_more (big_any _ _)) | (go_at_call 17; refine regrown_more (number_any _ _ (by omega) (by omega))) | (go_at_call 19; refine regrown_more (rmul_any _ _ _)) | (go_at_call 20; refine regrown_more (mul_any _ _ _ (by omega) (by omega) (by omega) (by omega)))))
  refine wpQuiet_nil ?_
  intro _ hw'
  obtain ⟨⟨dq, osq⟩, hw''⟩ := hw'
  subst hw''
  go_wp2
  go_ret
  refine ⟨rfl, ?_⟩
  repeat' (first | (with_reducible exact Below.refl _ _) | (with_reducible refine below_gr ?_ ?_ _ _) | (with_reducible refine below_drewN ?_ _) | (with_reducible refine Below.drew ?_) | (with_reducible refine Below.alloc ?_ ?_ _) | (with_reducible exact Nat.le_refl _) | (simp only [size_gr, World.size_alloc]; omega))

set_option maxHeartbeats 2000000 in
theorem shifts_law (a s : Int) (w : World) (h1 : -170141183460469231731687303715884105728 ≤ a) (h2 : a < 170141183460469231731687303715884105728) :
    Calls Try.prog 5 #[(.agg #[.int .i64 (hiW a), .int .u64 (loW a)]), .int .i64 s] w fun e w' => e = .returned (.bool true) ∧ Below w.heap.size w w' := by
  have hk := clamp_bd s 0 127 (by omega)
  go_enter Try.func5, Try.ntmps5
  go_wp2_with (first | (go_at_call 9; refine (awake_w _).mono ?_; rintro e w0 ⟨rfl, hb0⟩; obtain ⟨d0, os0, rfl⟩ := more_of hb0) | (go_at_call 21; refine (bits_any _ _ _ _).mono ?_; rintro e w' ⟨rfl, rfl⟩))
  refine wp_region_quiet_below (by kernel_rfl) (by kernel_rfl) ?_
  repeat (go_big_quiet_step (first | (go_at_call 22; refine regrown_more (shr_any _ _ _ h1 h2)) | (go_at_call 10; refine regrown_more (big_any _ _)) | (go_at_call 23; refine regrown_more (rshr_int _ _ _ (by omega) (by omega) h1 h2)) | (go_at_call 24; refine regrown_more (wround_any _ _ _ h1 h2)) | (go_at_call 25; refine regrown_more (rround_w _ _ _ h1 h2))))
  refine wpQuiet_nil ?_
  intro _ hw'
  obtain ⟨⟨dq, osq⟩, hw''⟩ := hw'
  subst hw''
  go_wp2
  go_ret
  refine ⟨rfl, ?_⟩
  repeat' (first | (with_reducible exact Below.refl _ _) | (with_reducible refine below_gr ?_ ?_ _ _) | (with_reducible refine below_drewN ?_ _) | (with_reducible refine Below.drew ?_) | (with_reducible refine Below.alloc ?_ ?_ _) | (with_reducible exact Nat.le_refl _) | (simp only [size_gr, World.size_alloc]; omega))
end Go.Proofs.Ytmijjhgibbbedaa
