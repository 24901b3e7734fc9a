/-
  What each function of package wide answers (the second half): Int, Sat, Round. Contracts over whole numbers of 128 bits with a sign; nothing that was there is turned.
-/
import Derived.Test.YtmijjhgibbbedaaWideCalls
import Derived.Test.YtmijjhgibbbedaaRows
import Derived.ProofKit
import Derived.OpenShut
import Derived.WalkSpells
import Derived.Handy
import Derived.WalkLawsBesides
import Derived.Below
import Derived.Deep.QuietTactic
import Derived.BigQuiet
import Derived.WalkSmall
import Derived.Deep.RegionHeld3
import Derived.Lib.QuietBelow
namespace Go.Proofs.Ytmijjhgibbbedaa
set_option linter.unusedVariables false
open Go.ChangeShapes Go.WideShapes Go.ChangeAt Go.RowKit
open Go.Sort (grow)
attribute [local go_sem] cell?_gr frozen?_gr setCell_gr size_gr drew_gr drewN_gr redrawn_drew redrawn_drewN redrawn_redrawn gr_gr eql_acc neq_acc eql_big neq_big

theorem field_hi (a b : Value) (w : World) : (Instr.field 24 (.agg #[a, b]) 0).run Try.prog w = .ok a w := by kernel_rfl
theorem field_lo (a b : Value) (w : World) : (Instr.field 24 (.agg #[a, b]) 1).run Try.prog w = .ok b w := by kernel_rfl
attribute [local go_sem] field_hi field_lo
theorem ret_ib {a b : Int} {t : Bool} (h : a = b) : Ending.returned (.tuple #[.int .i64 a, .bool t]) = .returned (.tuple #[.int .i64 b, .bool t]) := by rw [h]

set_option maxHeartbeats 400000 in
theorem int_yes (a : Int) (w : World) (h1 : -9223372036854775808 ≤ a) (h2 : a ≤ 9223372036854775807) :
    Calls Try.prog 27 #[(.agg #[.int .i64 (hiW a), .int .u64 (loW a)])] w fun e w' => e = .returned (.tuple #[.int .i64 a, .bool true]) ∧ Below w.heap.size w w' := by
  have ha := hiW_bd a
  have la := loW_bd a
  have hw := wrap64_bd (loW a)
  have e1 := (int_hi h1 h2).1
  have e2 := int_lo a
  have E3 : Hid _ := (int_hi h1 h2).2
  go_enter Try.func27, Try.ntmps27
  go_wp2
  refine wp_region_quiet_below (by kernel_rfl) (by kernel_rfl) ?_
  repeat (go_big_quiet_step ((go_at_call 16; refine Calls.regrown_of (of_any _ _ (by omega) (by omega)))))
  refine wpQuiet_nil ?_
  intro _ hw'
  obtain ⟨⟨dq, osq⟩, hw''⟩ := hw'
  subst hw''
  go_wp2
  go_ret2
  exact ⟨ret_ib E3.out, below_gr (by go_grown) (by go_size) _ _⟩

set_option maxHeartbeats 400000 in
theorem int_not (a : Int) (w : World) (h1 : -170141183460469231731687303715884105728 ≤ a) (h2 : a < 170141183460469231731687303715884105728) (h : ¬ (-9223372036854775808 ≤ a ∧ a ≤ 9223372036854775807)) :
    Calls Try.prog 27 #[(.agg #[.int .i64 (hiW a), .int .u64 (loW a)])] w fun e w' => e = .returned (.tuple #[.int .i64 0, .bool false]) ∧ Below w.heap.size w w' := by
  have ha := hiW_bd a
  have la := loW_bd a
  have hw := wrap64_bd (loW a)
  have e1 := int_no h1 h2 h
  have e2 := int_lo a
  clear h
  go_enter Try.func27, Try.ntmps27
  go_wp2
  refine wp_region_quiet_below (by kernel_rfl) (by kernel_rfl) ?_
  repeat (go_big_quiet_step ((go_at_call 16; refine Calls.regrown_of (of_any _ _ (by omega) (by omega)))))
  refine wpQuiet_nil ?_
  intro _ hw'
  obtain ⟨⟨dq, osq⟩, hw''⟩ := hw'
  subst hw''
  go_wp2
  go_ret2
  exact ⟨rfl, below_gr (by go_grown) (by go_size) _ _⟩

set_option maxHeartbeats 400000 in
theorem wsat_any (a n : Int) (w : World) (h1 : -170141183460469231731687303715884105728 ≤ a) (h2 : a < 170141183460469231731687303715884105728) :
    Calls Try.prog 30 #[(.agg #[.int .i64 (hiW a), .int .u64 (loW a)]), .int .i64 n] w fun e w' => e = .returned (.int .i64 (satF a n)) ∧ Below w.heap.size w w' := by
  by_cases h : -9223372036854775808 ≤ a ∧ a ≤ 9223372036854775807
  · go_enter Try.func30, Try.ntmps30
    go_wp2_with (first | (go_at_call 27; refine (int_yes _ _ h.1 h.2).mono ?_; rintro e w1 ⟨rfl, hb⟩; obtain ⟨d1, os1, rfl⟩ := more_of hb) | (go_at_call 39; refine (sat_any _ _ _).mono ?_; rintro e w' ⟨rfl, rfl⟩))
    go_ret
    exact ⟨rfl, below_gr (by go_grown) (by go_size) _ _⟩
  · have S : Hid _ := sat_side (n := n) h
    by_cases hn : a < 0
    · have hh := (sign_hi h1 h2).2 hn
      go_enter Try.func30, Try.ntmps30
      go_wp2_with (first | (go_at_call 27; refine (int_not _ _ h1 h2 h).mono ?_; rintro e w1 ⟨rfl, hb⟩; obtain ⟨d1, os1, rfl⟩ := more_of hb) | (go_at_call 39; refine (sat_any _ _ _).mono ?_; rintro e w' ⟨rfl, rfl⟩))
      go_ret
      exact ⟨ret_int (by rw [S.out, if_pos hn]), below_gr (by go_grown) (by go_size) _ _⟩
    · have hh : ¬ hiW a < 0 := fun h' => hn ((sign_hi h1 h2).1 h')
      go_enter Try.func30, Try.ntmps30
      go_wp2_with (first | (go_at_call 27; refine (int_not _ _ h1 h2 h).mono ?_; rintro e w1 ⟨rfl, hb⟩; obtain ⟨d1, os1, rfl⟩ := more_of hb) | (go_at_call 39; refine (sat_any _ _ _).mono ?_; rintro e w' ⟨rfl, rfl⟩))
      go_ret
      exact ⟨ret_int (by rw [S.out, if_neg (by omega)]), below_gr (by go_grown) (by go_size) _ _⟩

set_option maxHeartbeats 400000 in
theorem wround_any (a s : Int) (w : World) (h1 : -170141183460469231731687303715884105728 ≤ a) (h2 : a < 170141183460469231731687303715884105728) :
    Calls Try.prog 24 #[(.agg #[.int .i64 (hiW a), .int .u64 (loW a)]), .int .i64 s] w fun e w' => e = .returned (.agg #[.int .i64 (hiW (rndW a s)), .int .u64 (loW (rndW a s))]) ∧ Below w.heap.size w w' := by
  have hb := clamp_bd s 0 127 (by omega)
  cases hz : (clamp s 0 127 == 0)
  · have hz' : clamp s 0 127 ≠ 0 := by simpa using hz
    have E1 : Hid _ := (half_of s hz').1
    have E2 : Hid _ := (half_of s hz').2
    have E3 : Hid _ := half_bit (a / p2 ((clamp s 0 127).toNat - 1))
    have E4 : Hid _ := (half_sum (y := a / p2 (clamp s 0 127).toNat) (x := a / p2 ((clamp s 0 127).toNat - 1))).1
    have E5 : Hid _ := (half_sum (y := a / p2 (clamp s 0 127).toNat) (x := a / p2 ((clamp s 0 127).toNat - 1))).2
    have F : Hid (rndW a s = a / p2 (clamp s 0 127).toNat + a / p2 ((clamp s 0 127).toNat - 1) % 2) := by show rndW a s = a / p2 (clamp s 0 127).toNat + a / p2 ((clamp s 0 127).toNat - 1) % 2; unfold rndW; rw [if_neg hz']
    have hh := hiW_bd (a / p2 (clamp s 0 127).toNat)
    have hl := loW_bd (a / p2 (clamp s 0 127).toNat)
    have hx : 0 ≤ a / p2 ((clamp s 0 127).toNat - 1) % 2 ∧ a / p2 ((clamp s 0 127).toNat - 1) % 2 ≤ 1 := by omega
    clear hz'
    go_enter Try.func24, Try.ntmps24
    go_wp2_with (first | (go_at_call 36; refine (within_w _ _).mono ?_; rintro e w' ⟨rfl, rfl⟩))
    refine (shr_any _ _ _ h1 h2).mono ?_; rintro e w1 ⟨rfl, hb⟩; obtain ⟨d1, os1, rfl⟩ := more_of hb
    rw [E1.out]
    go_wp2_with fail
    rw [E3.out]
    refine (shr_any _ _ _ h1 h2).mono ?_; rintro e w1 ⟨rfl, hb⟩; obtain ⟨d2, os2, rfl⟩ := more_of hb
    rw [E2.out]
    go_wp2_with fail
    refine (plus_hl _ _ _ _ _ (by omega) (by omega) (by omega) (by omega) (by omega) (by omega) (by omega) (by omega)).mono ?_; rintro e w1 ⟨rfl, hb⟩; obtain ⟨d3, os3, rfl⟩ := more_of hb
    rw [E4.out, E5.out]
    go_wp2
    go_returns
    exact ⟨by rw [F.out], below_gr (by go_grown) (by go_size) _ _⟩
  · have F : Hid (rndW a s = a) := by show _ = _; unfold rndW; rw [if_pos (by simpa using hz)]
    go_enter Try.func24, Try.ntmps24
    go_wp2_with (first | (go_at_call 36; refine (within_w _ _).mono ?_; rintro e w' ⟨rfl, rfl⟩))
    go_returns
    exact ⟨by rw [F.out], by go_grown⟩
end Go.Proofs.Ytmijjhgibbbedaa
