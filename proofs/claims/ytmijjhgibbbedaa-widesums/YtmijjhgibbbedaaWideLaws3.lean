/-
  The law WideTells of layer 2 as a walk: at every input of its types it returns true, and nothing that was there has turned.
-/
import Derived.Test.YtmijjhgibbbedaaWideLaws2
import Derived.Test.YtmijjhgibbbedaaRefCalls
import Derived.Test.YtmijjhgibbbedaaRows
import Derived.ProofKit
import Derived.OpenShut
import Derived.WalkSpells
import Derived.Handy
import Derived.WalkLawsBesides
import Derived.Below
import Derived.Deep.QuietTactic
import Derived.BigQuiet
import Derived.WalkSmall
import Derived.Deep.RegionHeld3
import Derived.Deep.DeepCutAuto
import Derived.Test.YtmijjhgibbbedaaMore2
import Derived.Lib.QuietBelow
namespace Go.Proofs.Ytmijjhgibbbedaa
set_option linter.unusedVariables false
open Go.ChangeShapes Go.WideShapes Go.ChangeAt Go.RowKit
open Go.Sort (grow)
attribute [local go_sem] cell?_gr frozen?_gr setCell_gr size_gr drew_gr drewN_gr heap_redrawn redrawn_drew redrawn_drewN redrawn_redrawn gr_gr eql_acc neq_acc equal_big setCell_drewN alloc_drewN World.drewN_drewN Array.size_append
attribute [local go_sem] lt_1 lt_11 lt_2 lt_21 lt_3 lt_31 lt_4 lt_41 lt_5 lt_51 lt_6 lt_61


theorem digs_no {a b : Int} (h1 : -170141183460469231731687303715884105728 ≤ a) (h2 : a < 170141183460469231731687303715884105728) (h3 : -170141183460469231731687303715884105728 ≤ b) (h4 : b < 170141183460469231731687303715884105728) (h : a ≠ b) : (dg a 0 == dg b 0 && dg a 1 == dg b 1 && dg a 2 == dg b 2 && dg a 3 == dg b 3 && dg a 4 == dg b 4 && dg a 5 == dg b 5 && dg a 6 == dg b 6 && dg a 7 == dg b 7) = false := by
  rw [Bool.eq_false_iff]
  intro hh
  simp only [Bool.and_eq_true, beq_iff_eq] at hh
  obtain ⟨⟨⟨⟨⟨⟨⟨e0, e1⟩, e2⟩, e3⟩, e4⟩, e5⟩, e6⟩, e7⟩ := hh
  rw [dg_0, dg_0] at e0
  rw [dg_1, dg_1] at e1
  rw [dg_2, dg_2] at e2
  rw [dg_3, dg_3] at e3
  rw [dg_4, dg_4] at e4
  rw [dg_5, dg_5] at e5
  rw [dg_6, dg_6] at e6
  rw [dg_7, dg_7] at e7
  omega
theorem rless_as (a b : Int) (c : Bool) (w : World) (h1 : -170141183460469231731687303715884105728 ≤ a) (h2 : a < 170141183460469231731687303715884105728) (h3 : -170141183460469231731687303715884105728 ≤ b) (h4 : b < 170141183460469231731687303715884105728) (h : decide (a < b) = c) :
    Calls Try.prog 26 #[(.agg #[.int .i64 (dg a 0), .int .i64 (dg a 1), .int .i64 (dg a 2), .int .i64 (dg a 3), .int .i64 (dg a 4), .int .i64 (dg a 5), .int .i64 (dg a 6), .int .i64 (dg a 7)]), (.agg #[.int .i64 (dg b 0), .int .i64 (dg b 1), .int .i64 (dg b 2), .int .i64 (dg b 3), .int .i64 (dg b 4), .int .i64 (dg b 5), .int .i64 (dg b 6), .int .i64 (dg b 7)])] w fun e w' => e = .returned (.bool c) ∧ Below w.heap.size w w' := by
  subst h; exact rless_any a b w h1 h2 h3 h4
theorem held_as (a x y c : Int) (w : World) (h1 : -170141183460469231731687303715884105728 ≤ a) (h2 : a < 170141183460469231731687303715884105728) (h3 : -170141183460469231731687303715884105728 ≤ x) (h4 : x < 170141183460469231731687303715884105728) (h5 : -170141183460469231731687303715884105728 ≤ y) (h6 : y < 170141183460469231731687303715884105728) (h : clamp a x y = c) :
    Calls Try.prog 31 #[(.agg #[.int .i64 (dg a 0), .int .i64 (dg a 1), .int .i64 (dg a 2), .int .i64 (dg a 3), .int .i64 (dg a 4), .int .i64 (dg a 5), .int .i64 (dg a 6), .int .i64 (dg a 7)]), (.agg #[.int .i64 (dg x 0), .int .i64 (dg x 1), .int .i64 (dg x 2), .int .i64 (dg x 3), .int .i64 (dg x 4), .int .i64 (dg x 5), .int .i64 (dg x 6), .int .i64 (dg x 7)]), (.agg #[.int .i64 (dg y 0), .int .i64 (dg y 1), .int .i64 (dg y 2), .int .i64 (dg y 3), .int .i64 (dg y 4), .int .i64 (dg y 5), .int .i64 (dg y 6), .int .i64 (dg y 7)])] w fun e w' => e = .returned (.agg #[.int .i64 (dg c 0), .int .i64 (dg c 1), .int .i64 (dg c 2), .int .i64 (dg c 3), .int .i64 (dg c 4), .int .i64 (dg c 5), .int .i64 (dg c 6), .int .i64 (dg c 7)]) ∧ Below w.heap.size w w' := by
  subst h; exact held_big a x y w h1 h2 h3 h4 h5 h6

set_option maxHeartbeats 2000000 in
theorem tells_lt1 (a b n : Int) (w : World) (h1 : -170141183460469231731687303715884105728 ≤ a) (h2 : a < 170141183460469231731687303715884105728) (h3 : -170141183460469231731687303715884105728 ≤ b) (h4 : b < 170141183460469231731687303715884105728) (ho : a < b) (hf : -9223372036854775808 ≤ a ∧ a ≤ 9223372036854775807) :
    Calls Try.prog 6 #[(.agg #[.int .i64 (hiW a), .int .u64 (loW a)]), (.agg #[.int .i64 (hiW b), .int .u64 (loW b)]), .int .i64 n] w fun e w' => e = .returned (.bool true) ∧ Below w.heap.size w w' := by
  have hk := clamp_bd n 1 63 (by omega)
  have P1 := p2_pos ((clamp n 1 63).toNat - 1)
  have P2 := p2_62 (n := (clamp n 1 63).toNat - 1) (by omega)
  have EP : Hid ((clamp n 1 63 - 1).toNat = (clamp n 1 63).toNat - 1) := by show _ = _; omega
  have SB := satF_bd a n
  have hw := wrap64_bd (loW a)
  have L : Hid (decide (a < b) = true) := by show _ = _; simpa using ho
  have C : Hid (cmpF a b = -1) := by show _ = _; unfold cmpF; rw [if_pos ho]
  have e := (int_hi hf.1 hf.2).2
  clear ho
  go_enter Try.func6, Try.ntmps6
  go_wp2_with (go_at_call 9; refine (awake_w _).mono ?_; rintro e w0 ⟨rfl, hb0⟩; obtain ⟨d0, os0, rfl⟩ := more_of hb0)
  refine wp_region_quiet_below (by kernel_rfl) (by kernel_rfl) ?_
  repeat (go_big_quiet_step (first | (go_at_call 10; refine regrown_more (big_any _ _)) | (go_at_call 26; refine regrown_more (rless_as a b true _ h1 h2 h3 h4 L.out))))
  refine wpQuiet_nil ?_
  intro _ hw'
  obtain ⟨⟨dq1, osq1⟩, hw''⟩ := hw'
  subst hw''
  rw [gr_gr]
  go_wp2_with (go_at_call 27; refine (int_yes _ _ hf.1 hf.2).mono ?_; rintro e w1 ⟨rfl, hb⟩; obtain ⟨d1, os1, rfl⟩ := more_of hb)
  generalize os0 ++ (osq1 ++ os1) = oA2
  refine wp_region_quiet_below (by kernel_rfl) (by kernel_rfl) ?_
  repeat (go_big_quiet_step (first | (go_at_call 10; refine regrown_more (big_any _ _)) | (go_at_call 17; refine regrown_more (number_any _ _ (by omega) (by omega)))))
  refine wpQuiet_nil ?_
  intro _ hw'
  obtain ⟨⟨dq2, osq2⟩, hw''⟩ := hw'
  subst hw''
  rw [gr_gr]
  go_wp2_with (first | (go_at_call 21; refine (bits_any _ _ _ _).mono ?_; rintro e w' ⟨rfl, rfl⟩) | (go_at_call 28; refine (pow_any _ _ (by omega) (by omega)).mono ?_; rintro e w' ⟨rfl, rfl⟩; rw [EP.out]) | (go_at_call 29; refine (cmp_as a b (-1) _ h1 h2 h3 h4 C.out).mono ?_; rintro e w3 ⟨rfl, hb3⟩; obtain ⟨d3, os3, rfl⟩ := more_of hb3))
  generalize oA2 ++ (osq2 ++ os3) = oA3
  refine wp_region_quiet_below (by kernel_rfl) (by kernel_rfl) ?_
  repeat (go_big_quiet_step (first | (go_at_call 10; refine regrown_more (big_any _ _)) | (go_at_call 17; refine regrown_more (number_any _ _ (by omega) (by omega))) | (go_at_call 30; refine regrown_more (wsat_any _ _ _ h1 h2)) | (go_at_call 31; refine regrown_more (held_as _ _ _ (satF a n) _ h1 h2 (by omega) (by omega) (by omega) (by omega) rfl))))
  refine wpQuiet_nil ?_
  intro _ hw'
  obtain ⟨⟨dq3, osq3⟩, hw''⟩ := hw'
  subst hw''
  rw [gr_gr]
  go_wp2
  go_ret
  refine ⟨rfl, ?_⟩
  repeat' (first | (with_reducible exact Below.refl _ _) | (with_reducible refine below_gr ?_ ?_ _ _) | (with_reducible refine below_drewN ?_ _) | (with_reducible refine Below.drew ?_) | (with_reducible refine Below.alloc ?_ ?_ _) | (with_reducible exact Nat.le_refl _) | (simp only [World.size_alloc]; omega))

set_option maxHeartbeats 2000000 in
theorem tells_lt0 (a b n : Int) (w : World) (h1 : -170141183460469231731687303715884105728 ≤ a) (h2 : a < 170141183460469231731687303715884105728) (h3 : -170141183460469231731687303715884105728 ≤ b) (h4 : b < 170141183460469231731687303715884105728) (ho : a < b) (hf : ¬ (-9223372036854775808 ≤ a ∧ a ≤ 9223372036854775807)) :
    Calls Try.prog 6 #[(.agg #[.int .i64 (hiW a), .int .u64 (loW a)]), (.agg #[.int .i64 (hiW b), .int .u64 (loW b)]), .int .i64 n] w fun e w' => e = .returned (.bool true) ∧ Below w.heap.size w w' := by
  have hk := clamp_bd n 1 63 (by omega)
  have P1 := p2_pos ((clamp n 1 63).toNat - 1)
  have P2 := p2_62 (n := (clamp n 1 63).toNat - 1) (by omega)
  have EP : Hid ((clamp n 1 63 - 1).toNat = (clamp n 1 63).toNat - 1) := by show _ = _; omega
  have SB := satF_bd a n
  have hw := wrap64_bd (loW a)
  have L : Hid (decide (a < b) = true) := by show _ = _; simpa using ho
  have C : Hid (cmpF a b = -1) := by show _ = _; unfold cmpF; rw [if_pos ho]
  have DN : (dg a 0 == dg (wrap64 (loW a)) 0 && dg a 1 == dg (wrap64 (loW a)) 1 && dg a 2 == dg (wrap64 (loW a)) 2 && dg a 3 == dg (wrap64 (loW a)) 3 && dg a 4 == dg (wrap64 (loW a)) 4 && dg a 5 == dg (wrap64 (loW a)) 5 && dg a 6 == dg (wrap64 (loW a)) 6 && dg a 7 == dg (wrap64 (loW a)) 7) = false := digs_no h1 h2 (by omega) (by omega) (fun h => hf (by omega))
  clear ho
  go_enter Try.func6, Try.ntmps6
  go_wp2_with (go_at_call 9; refine (awake_w _).mono ?_; rintro e w0 ⟨rfl, hb0⟩; obtain ⟨d0, os0, rfl⟩ := more_of hb0)
  refine wp_region_quiet_below (by kernel_rfl) (by kernel_rfl) ?_
  repeat (go_big_quiet_step (first | (go_at_call 10; refine regrown_more (big_any _ _)) | (go_at_call 26; refine regrown_more (rless_as a b true _ h1 h2 h3 h4 L.out))))
  refine wpQuiet_nil ?_
  intro _ hw'
  obtain ⟨⟨dq1, osq1⟩, hw''⟩ := hw'
  subst hw''
  rw [gr_gr]
  go_wp2_with (go_at_call 27; refine (int_not _ _ h1 h2 hf).mono ?_; rintro e w1 ⟨rfl, hb⟩; obtain ⟨d1, os1, rfl⟩ := more_of hb)
  generalize os0 ++ (osq1 ++ os1) = oA2
  refine wp_region_quiet_below (by kernel_rfl) (by kernel_rfl) ?_
  repeat (go_big_quiet_step (first | (go_at_call 10; refine regrown_more (big_any _ _)) | (go_at_call 17; refine regrown_more (number_any _ _ (by omega) (by omega)))))
  refine wpQuiet_nil ?_
  intro _ hw'
  obtain ⟨⟨dq2, osq2⟩, hw''⟩ := hw'
  subst hw''
  rw [gr_gr]
  go_wp2_with (first | (go_at_call 21; refine (bits_any _ _ _ _).mono ?_; rintro e w' ⟨rfl, rfl⟩) | (go_at_call 28; refine (pow_any _ _ (by omega) (by omega)).mono ?_; rintro e w' ⟨rfl, rfl⟩; rw [EP.out]) | (go_at_call 29; refine (cmp_as a b (-1) _ h1 h2 h3 h4 C.out).mono ?_; rintro e w3 ⟨rfl, hb3⟩; obtain ⟨d3, os3, rfl⟩ := more_of hb3))
  generalize oA2 ++ (osq2 ++ os3) = oA3
  refine wp_region_quiet_below (by kernel_rfl) (by kernel_rfl) ?_
  repeat (go_big_quiet_step (first | (go_at_call 10; refine regrown_more (big_any _ _)) | (go_at_call 17; refine regrown_more (number_any _ _ (by omega) (by omega))) | (go_at_call 30; refine regrown_more (wsat_any _ _ _ h1 h2)) | (go_at_call 31; refine regrown_more (held_as _ _ _ (satF a n) _ h1 h2 (by omega) (by omega) (by omega) (by omega) rfl))))
  refine wpQuiet_nil ?_
  intro _ hw'
  obtain ⟨⟨dq3, osq3⟩, hw''⟩ := hw'
  subst hw''
  rw [gr_gr]
  go_wp2
  go_ret
  refine ⟨rfl, ?_⟩
  repeat' (first | (with_reducible exact Below.refl _ _) | (with_reducible refine below_gr ?_ ?_ _ _) | (with_reducible refine below_drewN ?_ _) | (with_reducible refine Below.drew ?_) | (with_reducible refine Below.alloc ?_ ?_ _) | (with_reducible exact Nat.le_refl _) | (simp only [World.size_alloc]; omega))

set_option maxHeartbeats 2000000 in
theorem tells_eq1 (a n : Int) (w : World) (h1 : -170141183460469231731687303715884105728 ≤ a) (h2 : a < 170141183460469231731687303715884105728) (hf : -9223372036854775808 ≤ a ∧ a ≤ 9223372036854775807) :
    Calls Try.prog 6 #[(.agg #[.int .i64 (hiW a), .int .u64 (loW a)]), (.agg #[.int .i64 (hiW a), .int .u64 (loW a)]), .int .i64 n] w fun e w' => e = .returned (.bool true) ∧ Below w.heap.size w w' := by
  have hk := clamp_bd n 1 63 (by omega)
  have P1 := p2_pos ((clamp n 1 63).toNat - 1)
  have P2 := p2_62 (n := (clamp n 1 63).toNat - 1) (by omega)
  have EP : Hid ((clamp n 1 63 - 1).toNat = (clamp n 1 63).toNat - 1) := by show _ = _; omega
  have SB := satF_bd a n
  have hw := wrap64_bd (loW a)
  have L : Hid (decide (a < a) = false) := by show _ = _; simp
  have C : Hid (cmpF a a = 0) := cmp_self a
  have e := (int_hi hf.1 hf.2).2
  go_enter Try.func6, Try.ntmps6
  go_wp2_with (go_at_call 9; refine (awake_w _).mono ?_; rintro e w0 ⟨rfl, hb0⟩; obtain ⟨d0, os0, rfl⟩ := more_of hb0)
  refine wp_region_quiet_below (by kernel_rfl) (by kernel_rfl) ?_
  repeat (go_big_quiet_step (first | (go_at_call 10; refine regrown_more (big_any _ _)) | (go_at_call 26; refine regrown_more (rless_as a a false _ h1 h2 h1 h2 L.out))))
  refine wpQuiet_nil ?_
  intro _ hw'
  obtain ⟨⟨dq1, osq1⟩, hw''⟩ := hw'
  subst hw''
  rw [gr_gr]
  go_wp2_with (go_at_call 27; refine (int_yes _ _ hf.1 hf.2).mono ?_; rintro e w1 ⟨rfl, hb⟩; obtain ⟨d1, os1, rfl⟩ := more_of hb)
  generalize os0 ++ osq1 = oA2
  refine wp_region_quiet_below (by kernel_rfl) (by kernel_rfl) ?_
  repeat (go_big_quiet_step (first | (go_at_call 10; refine regrown_more (big_any _ _))))
  refine wpQuiet_nil ?_
  intro _ hw'
  obtain ⟨⟨dq2, osq2⟩, hw''⟩ := hw'
  subst hw''
  rw [gr_gr]
  go_wp2_with (go_at_call 27; refine (int_yes _ _ hf.1 hf.2).mono ?_; rintro e w1 ⟨rfl, hb⟩; obtain ⟨d1, os1, rfl⟩ := more_of hb)
  generalize oA2 ++ (osq2 ++ os1) = oA3
  refine wp_region_quiet_below (by kernel_rfl) (by kernel_rfl) ?_
  repeat (go_big_quiet_step (first | (go_at_call 10; refine regrown_more (big_any _ _)) | (go_at_call 17; refine regrown_more (number_any _ _ (by omega) (by omega)))))
  refine wpQuiet_nil ?_
  intro _ hw'
  obtain ⟨⟨dq3, osq3⟩, hw''⟩ := hw'
  subst hw''
  rw [gr_gr]
  go_wp2_with (first | (go_at_call 21; refine (bits_any _ _ _ _).mono ?_; rintro e w' ⟨rfl, rfl⟩) | (go_at_call 28; refine (pow_any _ _ (by omega) (by omega)).mono ?_; rintro e w' ⟨rfl, rfl⟩; rw [EP.out]) | (go_at_call 29; refine (cmp_as a a (0) _ h1 h2 h1 h2 C.out).mono ?_; rintro e w3 ⟨rfl, hb3⟩; obtain ⟨d3, os3, rfl⟩ := more_of hb3))
  generalize oA3 ++ (osq3 ++ os3) = oA4
  refine wp_region_quiet_below (by kernel_rfl) (by kernel_rfl) ?_
  repeat (go_big_quiet_step (first | (go_at_call 10; refine regrown_more (big_any _ _)) | (go_at_call 17; refine regrown_more (number_any _ _ (by omega) (by omega))) | (go_at_call 30; refine regrown_more (wsat_any _ _ _ h1 h2)) | (go_at_call 31; refine regrown_more (held_as _ _ _ (satF a n) _ h1 h2 (by omega) (by omega) (by omega) (by omega) rfl))))
  refine wpQuiet_nil ?_
  intro _ hw'
  obtain ⟨⟨dq4, osq4⟩, hw''⟩ := hw'
  subst hw''
  rw [gr_gr]
  go_wp2
  go_ret
  refine ⟨rfl, ?_⟩
  repeat' (first | (with_reducible exact Below.refl _ _) | (with_reducible refine below_gr ?_ ?_ _ _) | (with_reducible refine below_drewN ?_ _) | (with_reducible refine Below.drew ?_) | (with_reducible refine Below.alloc ?_ ?_ _) | (with_reducible exact Nat.le_refl _) | (simp only [World.size_alloc]; omega))

set_option maxHeartbeats 2000000 in
theorem tells_eq0 (a n : Int) (w : World) (h1 : -170141183460469231731687303715884105728 ≤ a) (h2 : a < 170141183460469231731687303715884105728) (hf : ¬ (-9223372036854775808 ≤ a ∧ a ≤ 9223372036854775807)) :
    Calls Try.prog 6 #[(.agg #[.int .i64 (hiW a), .int .u64 (loW a)]), (.agg #[.int .i64 (hiW a), .int .u64 (loW a)]), .int .i64 n] w fun e w' => e = .returned (.bool true) ∧ Below w.heap.size w w' := by
  have hk := clamp_bd n 1 63 (by omega)
  have P1 := p2_pos ((clamp n 1 63).toNat - 1)
  have P2 := p2_62 (n := (clamp n 1 63).toNat - 1) (by omega)
  have EP : Hid ((clamp n 1 63 - 1).toNat = (clamp n 1 63).toNat - 1) := by show _ = _; omega
  have SB := satF_bd a n
  have hw := wrap64_bd (loW a)
  have L : Hid (decide (a < a) = false) := by show _ = _; simp
  have C : Hid (cmpF a a = 0) := cmp_self a
  have DN : (dg a 0 == dg (wrap64 (loW a)) 0 && dg a 1 == dg (wrap64 (loW a)) 1 && dg a 2 == dg (wrap64 (loW a)) 2 && dg a 3 == dg (wrap64 (loW a)) 3 && dg a 4 == dg (wrap64 (loW a)) 4 && dg a 5 == dg (wrap64 (loW a)) 5 && dg a 6 == dg (wrap64 (loW a)) 6 && dg a 7 == dg (wrap64 (loW a)) 7) = false := digs_no h1 h2 (by omega) (by omega) (fun h => hf (by omega))
  go_enter Try.func6, Try.ntmps6
  go_wp2_with (go_at_call 9; refine (awake_w _).mono ?_; rintro e w0 ⟨rfl, hb0⟩; obtain ⟨d0, os0, rfl⟩ := more_of hb0)
  refine wp_region_quiet_below (by kernel_rfl) (by kernel_rfl) ?_
  repeat (go_big_quiet_step (first | (go_at_call 10; refine regrown_more (big_any _ _)) | (go_at_call 26; refine regrown_more (rless_as a a false _ h1 h2 h1 h2 L.out))))
  refine wpQuiet_nil ?_
  intro _ hw'
  obtain ⟨⟨dq1, osq1⟩, hw''⟩ := hw'
  subst hw''
  rw [gr_gr]
  go_wp2_with (go_at_call 27; refine (int_not _ _ h1 h2 hf).mono ?_; rintro e w1 ⟨rfl, hb⟩; obtain ⟨d1, os1, rfl⟩ := more_of hb)
  generalize os0 ++ osq1 = oA2
  refine wp_region_quiet_below (by kernel_rfl) (by kernel_rfl) ?_
  repeat (go_big_quiet_step (first | (go_at_call 10; refine regrown_more (big_any _ _))))
  refine wpQuiet_nil ?_
  intro _ hw'
  obtain ⟨⟨dq2, osq2⟩, hw''⟩ := hw'
  subst hw''
  rw [gr_gr]
  go_wp2_with (go_at_call 27; refine (int_not _ _ h1 h2 hf).mono ?_; rintro e w1 ⟨rfl, hb⟩; obtain ⟨d1, os1, rfl⟩ := more_of hb)
  generalize oA2 ++ (osq2 ++ os1) = oA3
  refine wp_region_quiet_below (by kernel_rfl) (by kernel_rfl) ?_
  repeat (go_big_quiet_step (first | (go_at_call 10; refine regrown_more (big_any _ _)) | (go_at_call 17; refine regrown_more (number_any _ _ (by omega) (by omega)))))
  refine wpQuiet_nil ?_
  intro _ hw'
  obtain ⟨⟨dq3, osq3⟩, hw''⟩ := hw'
  subst hw''
  rw [gr_gr]
  go_wp2_with (first | (go_at_call 21; refine (bits_any _ _ _ _).mono ?_; rintro e w' ⟨rfl, rfl⟩) | (go_at_call 28; refine (pow_any _ _ (by omega) (by omega)).mono ?_; rintro e w' ⟨rfl, rfl⟩; rw [EP.out]) | (go_at_call 29; refine (cmp_as a a (0) _ h1 h2 h1 h2 C.out).mono ?_; rintro e w3 ⟨rfl, hb3⟩; obtain ⟨d3, os3, rfl⟩ := more_of hb3))
  generalize oA3 ++ (osq3 ++ os3) = oA4
  refine wp_region_quiet_below (by kernel_rfl) (by kernel_rfl) ?_
  repeat (go_big_quiet_step (first | (go_at_call 10; refine regrown_more (big_any _ _)) | (go_at_call 17; refine regrown_more (number_any _ _ (by omega) (by omega))) | (go_at_call 30; refine regrown_more (wsat_any _ _ _ h1 h2)) | (go_at_call 31; refine regrown_more (held_as _ _ _ (satF a n) _ h1 h2 (by omega) (by omega) (by omega) (by omega) rfl))))
  refine wpQuiet_nil ?_
  intro _ hw'
  obtain ⟨⟨dq4, osq4⟩, hw''⟩ := hw'
  subst hw''
  rw [gr_gr]
  go_wp2
  go_ret
  refine ⟨rfl, ?_⟩
  repeat' (first | (with_reducible exact Below.refl _ _) | (with_reducible refine below_gr ?_ ?_ _ _) | (with_reducible refine below_drewN ?_ _) | (with_reducible refine Below.drew ?_) | (with_reducible refine Below.alloc ?_ ?_ _) | (with_reducible exact Nat.le_refl _) | (simp only [World.size_alloc]; omega))

set_option maxHeartbeats 2000000 in
theorem tells_gt1 (a b n : Int) (w : World) (h1 : -170141183460469231731687303715884105728 ≤ a) (h2 : a < 170141183460469231731687303715884105728) (h3 : -170141183460469231731687303715884105728 ≤ b) (h4 : b < 170141183460469231731687303715884105728) (ho : b < a) (hf : -9223372036854775808 ≤ a ∧ a ≤ 9223372036854775807) :
    Calls Try.prog 6 #[(.agg #[.int .i64 (hiW a), .int .u64 (loW a)]), (.agg #[.int .i64 (hiW b), .int .u64 (loW b)]), .int .i64 n] w fun e w' => e = .returned (.bool true) ∧ Below w.heap.size w w' := by
  have hk := clamp_bd n 1 63 (by omega)
  have P1 := p2_pos ((clamp n 1 63).toNat - 1)
  have P2 := p2_62 (n := (clamp n 1 63).toNat - 1) (by omega)
  have EP : Hid ((clamp n 1 63 - 1).toNat = (clamp n 1 63).toNat - 1) := by show _ = _; omega
  have SB := satF_bd a n
  have hw := wrap64_bd (loW a)
  have L : Hid (decide (a < b) = false) := by show _ = _; simp; omega
  have C : Hid (cmpF a b = 1) := by show _ = _; unfold cmpF; rw [if_neg (by omega), if_neg (by omega)]
  have D : (dg a 0 == dg b 0 && dg a 1 == dg b 1 && dg a 2 == dg b 2 && dg a 3 == dg b 3 && dg a 4 == dg b 4 && dg a 5 == dg b 5 && dg a 6 == dg b 6 && dg a 7 == dg b 7) = false := digs_no h1 h2 h3 h4 (by omega)
  have e := (int_hi hf.1 hf.2).2
  clear ho
  go_enter Try.func6, Try.ntmps6
  go_wp2_with (go_at_call 9; refine (awake_w _).mono ?_; rintro e w0 ⟨rfl, hb0⟩; obtain ⟨d0, os0, rfl⟩ := more_of hb0)
  refine wp_region_quiet_below (by kernel_rfl) (by kernel_rfl) ?_
  repeat (go_big_quiet_step (first | (go_at_call 10; refine regrown_more (big_any _ _)) | (go_at_call 26; refine regrown_more (rless_as a b false _ h1 h2 h3 h4 L.out))))
  refine wpQuiet_nil ?_
  intro _ hw'
  obtain ⟨⟨dq1, osq1⟩, hw''⟩ := hw'
  subst hw''
  rw [gr_gr]
  go_wp2_with (go_at_call 27; refine (int_yes _ _ hf.1 hf.2).mono ?_; rintro e w1 ⟨rfl, hb⟩; obtain ⟨d1, os1, rfl⟩ := more_of hb)
  generalize os0 ++ osq1 = oA2
  refine wp_region_quiet_below (by kernel_rfl) (by kernel_rfl) ?_
  repeat (go_big_quiet_step (first | (go_at_call 10; refine regrown_more (big_any _ _))))
  refine wpQuiet_nil ?_
  intro _ hw'
  obtain ⟨⟨dq2, osq2⟩, hw''⟩ := hw'
  subst hw''
  rw [gr_gr]
  go_wp2_with (go_at_call 27; refine (int_yes _ _ hf.1 hf.2).mono ?_; rintro e w1 ⟨rfl, hb⟩; obtain ⟨d1, os1, rfl⟩ := more_of hb)
  generalize oA2 ++ (osq2 ++ os1) = oA3
  refine wp_region_quiet_below (by kernel_rfl) (by kernel_rfl) ?_
  repeat (go_big_quiet_step (first | (go_at_call 10; refine regrown_more (big_any _ _)) | (go_at_call 17; refine regrown_more (number_any _ _ (by omega) (by omega)))))
  refine wpQuiet_nil ?_
  intro _ hw'
  obtain ⟨⟨dq3, osq3⟩, hw''⟩ := hw'
  subst hw''
  rw [gr_gr]
  go_wp2_with (first | (go_at_call 21; refine (bits_any _ _ _ _).mono ?_; rintro e w' ⟨rfl, rfl⟩) | (go_at_call 28; refine (pow_any _ _ (by omega) (by omega)).mono ?_; rintro e w' ⟨rfl, rfl⟩; rw [EP.out]) | (go_at_call 29; refine (cmp_as a b (1) _ h1 h2 h3 h4 C.out).mono ?_; rintro e w3 ⟨rfl, hb3⟩; obtain ⟨d3, os3, rfl⟩ := more_of hb3))
  generalize oA3 ++ (osq3 ++ os3) = oA4
  refine wp_region_quiet_below (by kernel_rfl) (by kernel_rfl) ?_
  repeat (go_big_quiet_step (first | (go_at_call 10; refine regrown_more (big_any _ _)) | (go_at_call 17; refine regrown_more (number_any _ _ (by omega) (by omega))) | (go_at_call 30; refine regrown_more (wsat_any _ _ _ h1 h2)) | (go_at_call 31; refine regrown_more (held_as _ _ _ (satF a n) _ h1 h2 (by omega) (by omega) (by omega) (by omega) rfl))))
  refine wpQuiet_nil ?_
  intro _ hw'
  obtain ⟨⟨dq4, osq4⟩, hw''⟩ := hw'
  subst hw''
  rw [gr_gr]
  go_wp2
  go_ret
  refine ⟨rfl, ?_⟩
  repeat' (first | (with_reducible exact Below.refl _ _) | (with_reducible refine below_gr ?_ ?_ _ _) | (with_reducible refine below_drewN ?_ _) | (with_reducible refine Below.drew ?_) | (with_reducible refine Below.alloc ?_ ?_ _) | (with_reducible exact Nat.le_refl _) | (simp only [World.size_alloc]; omega))

set_option maxHeartbeats 2000000 in
theorem tells_gt0 (a b n : Int) (w : World) (h1 : -170141183460469231731687303715884105728 ≤ a) (h2 : a < 170141183460469231731687303715884105728) (h3 : -170141183460469231731687303715884105728 ≤ b) (h4 : b < 170141183460469231731687303715884105728) (ho : b < a) (hf : ¬ (-9223372036854775808 ≤ a ∧ a ≤ 9223372036854775807)) :
    Calls Try.prog 6 #[(.agg #[.int .i64 (hiW a), .int .u64 (loW a)]), (.agg #[.int .i64 (hiW b), .int .u64 (loW b)]), .int .i64 n] w fun e w' => e = .returned (.bool true) ∧ Below w.heap.size w w' := by
  have hk := clamp_bd n 1 63 (by omega)
  have P1 := p2_pos ((clamp n 1 63).toNat - 1)
  have P2 := p2_62 (n := (clamp n 1 63).toNat - 1) (by omega)
  have EP : Hid ((clamp n 1 63 - 1).toNat = (clamp n 1 63).toNat - 1) := by show _ = _; omega
  have SB := satF_bd a n
  have hw := wrap64_bd (loW a)
  have L : Hid (decide (a < b) = false) := by show _ = _; simp; omega
  have C : Hid (cmpF a b = 1) := by show _ = _; unfold cmpF; rw [if_neg (by omega), if_neg (by omega)]
  have D : (dg a 0 == dg b 0 && dg a 1 == dg b 1 && dg a 2 == dg b 2 && dg a 3 == dg b 3 && dg a 4 == dg b 4 && dg a 5 == dg b 5 && dg a 6 == dg b 6 && dg a 7 == dg b 7) = false := digs_no h1 h2 h3 h4 (by omega)
  have DN : (dg a 0 == dg (wrap64 (loW a)) 0 && dg a 1 == dg (wrap64 (loW a)) 1 && dg a 2 == dg (wrap64 (loW a)) 2 && dg a 3 == dg (wrap64 (loW a)) 3 && dg a 4 == dg (wrap64 (loW a)) 4 && dg a 5 == dg (wrap64 (loW a)) 5 && dg a 6 == dg (wrap64 (loW a)) 6 && dg a 7 == dg (wrap64 (loW a)) 7) = false := digs_no h1 h2 (by omega) (by omega) (fun h => hf (by omega))
  clear ho
  go_enter Try.func6, Try.ntmps6
  go_wp2_with (go_at_call 9; refine (awake_w _).mono ?_; rintro e w0 ⟨rfl, hb0⟩; obtain ⟨d0, os0, rfl⟩ := more_of hb0)
  refine wp_region_quiet_below (by kernel_rfl) (by kernel_rfl) ?_
  repeat (go_big_quiet_step (first | (go_at_call 10; refine regrown_more (big_any _ _)) | (go_at_call 26; refine regrown_more (rless_as a b false _ h1 h2 h3 h4 L.out))))
  refine wpQuiet_nil ?_
  intro _ hw'
  obtain ⟨⟨dq1, osq1⟩, hw''⟩ := hw'
  subst hw''
  rw [gr_gr]
  go_wp2_with (go_at_call 27; refine (int_not _ _ h1 h2 hf).mono ?_; rintro e w1 ⟨rfl, hb⟩; obtain ⟨d1, os1, rfl⟩ := more_of hb)
  generalize os0 ++ osq1 = oA2
  refine wp_region_quiet_below (by kernel_rfl) (by kernel_rfl) ?_
  repeat (go_big_quiet_step (first | (go_at_call 10; refine regrown_more (big_any _ _))))
  refine wpQuiet_nil ?_
  intro _ hw'
  obtain ⟨⟨dq2, osq2⟩, hw''⟩ := hw'
  subst hw''
  rw [gr_gr]
  go_wp2_with (go_at_call 27; refine (int_not _ _ h1 h2 hf).mono ?_; rintro e w1 ⟨rfl, hb⟩; obtain ⟨d1, os1, rfl⟩ := more_of hb)
  generalize oA2 ++ (osq2 ++ os1) = oA3
  refine wp_region_quiet_below (by kernel_rfl) (by kernel_rfl) ?_
  repeat (go_big_quiet_step (first | (go_at_call 10; refine regrown_more (big_any _ _)) | (go_at_call 17; refine regrown_more (number_any _ _ (by omega) (by omega)))))
  refine wpQuiet_nil ?_
  intro _ hw'
  obtain ⟨⟨dq3, osq3⟩, hw''⟩ := hw'
  subst hw''
  rw [gr_gr]
  go_wp2_with (first | (go_at_call 21; refine (bits_any _ _ _ _).mono ?_; rintro e w' ⟨rfl, rfl⟩) | (go_at_call 28; refine (pow_any _ _ (by omega) (by omega)).mono ?_; rintro e w' ⟨rfl, rfl⟩; rw [EP.out]) | (go_at_call 29; refine (cmp_as a b (1) _ h1 h2 h3 h4 C.out).mono ?_; rintro e w3 ⟨rfl, hb3⟩; obtain ⟨d3, os3, rfl⟩ := more_of hb3))
  generalize oA3 ++ (osq3 ++ os3) = oA4
  refine wp_region_quiet_below (by kernel_rfl) (by kernel_rfl) ?_
  repeat (go_big_quiet_step (first | (go_at_call 10; refine regrown_more (big_any _ _)) | (go_at_call 17; refine regrown_more (number_any _ _ (by omega) (by omega))) | (go_at_call 30; refine regrown_more (wsat_any _ _ _ h1 h2)) | (go_at_call 31; refine regrown_more (held_as _ _ _ (satF a n) _ h1 h2 (by omega) (by omega) (by omega) (by omega) rfl))))
  refine wpQuiet_nil ?_
  intro _ hw'
  obtain ⟨⟨dq4, osq4⟩, hw''⟩ := hw'
  subst hw''
  rw [gr_gr]
  go_wp2
  go_ret
  refine ⟨rfl, ?_⟩
  repeat' (first | (with_reducible exact Below.refl _ _) | (with_reducible refine below_gr ?_ ?_ _ _) | (with_reducible refine below_drewN ?_ _) | (with_reducible refine Below.drew ?_) | (with_reducible refine Below.alloc ?_ ?_ _) | (with_reducible exact Nat.le_refl _) | (simp only [World.size_alloc]; omega))

theorem tells_law (a b n : Int) (w : World) (h1 : -170141183460469231731687303715884105728 ≤ a) (h2 : a < 170141183460469231731687303715884105728) (h3 : -170141183460469231731687303715884105728 ≤ b) (h4 : b < 170141183460469231731687303715884105728) :
    Calls Try.prog 6 #[(.agg #[.int .i64 (hiW a), .int .u64 (loW a)]), (.agg #[.int .i64 (hiW b), .int .u64 (loW b)]), .int .i64 n] w fun e w' => e = .returned (.bool true) ∧ Below w.heap.size w w' := by
  by_cases hf : -9223372036854775808 ≤ a ∧ a ≤ 9223372036854775807
  · rcases Int.lt_trichotomy a b with ho | ho | ho
    · exact tells_lt1 a b n w h1 h2 h3 h4 ho hf
    · subst ho; exact tells_eq1 a n w h1 h2 hf
    · exact tells_gt1 a b n w h1 h2 h3 h4 ho hf
  · rcases Int.lt_trichotomy a b with ho | ho | ho
    · exact tells_lt0 a b n w h1 h2 h3 h4 ho hf
    · subst ho; exact tells_eq0 a n w h1 h2 hf
    · exact tells_gt0 a b n w h1 h2 h3 h4 ho hf
end Go.Proofs.Ytmijjhgibbbedaa
