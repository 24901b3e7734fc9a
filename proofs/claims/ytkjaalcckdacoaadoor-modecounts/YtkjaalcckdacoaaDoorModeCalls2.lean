/-
  What Samples and Of of package mode, and the document's own answer for layer 5 (spinetref05), answer; the document's example. Nothing that was there is turned.
-/
import Derived.Test.YtkjaalcckdacoaaDoorModeCalls
import Derived.Test.YtkjaalcckdacoaaDoorMore2
import Derived.Laws.StructEq
namespace Go.Proofs.YtkjaalcckdacoaaDoor
set_option linter.unusedVariables false
open Go.ChangeShapes Go.WideShapes Go.ChangeAt Go.RowKit
open Go.Sort (grow)
attribute [local go_sem] cell?_gr frozen?_gr setCell_gr size_gr drew_gr drewN_gr redrawn_drew redrawn_drewN redrawn_redrawn gr_gr heap_redrawn Array.size_append
attribute [local go_sem] lt_1 lt_11 lt_2 lt_21 lt_3 lt_31

theorem samples_wrap (s c : Int) : nF s c = 0 ∨ (right s c ∧ 8 ≤ nF s c ∧ nF s c ≤ 32) := by
  by_cases h : right s c
  · right
    have := smp_bd (i := s.toNat) (by unfold right at h; omega)
    refine ⟨h, ?_, ?_⟩ <;> (unfold nF; rw [if_pos h]; omega)
  · left; unfold nF; rw [if_neg h]
theorem samples_in (s c : Int) : wrap64 (nF s c * c) = nF s c * c := by
  rcases samples_wrap s c with h | ⟨h, h1, h2⟩
  · rw [h, Int.zero_mul, IntWalk.wrap64_in _ (by omega)]
  · obtain ⟨_, hc | hc⟩ := right_cases h <;> (subst hc; rw [IntWalk.wrap64_in _ (by omega)])

set_option maxHeartbeats 400000 in
theorem samples_any (s c : Int) (w : World) (h : Hid (Tabs w)) :
    Calls Tryd.prog 15 #[(.agg #[.int .i64 (s), .int .i64 (c)])] w fun e w' => e = .returned (.int .i64 (nF s c * c)) ∧ Below w.heap.size w w' := by
  have HW : Hid _ := samples_in s c
  go_enter Tryd.func15, Tryd.ntmps15
  go_wp2
  refine wp_region_quiet_below (by kernel_rfl) (by kernel_rfl) ?_
  repeat (go_big_quiet_step ((go_at_call 11; refine Calls.regrown_of (n_any _ _ _ (h.out.below (below_gr (by go_grown) (by go_size) _ _))))))
  refine wpQuiet_nil ?_
  intro _ hw'
  obtain ⟨⟨dq, osq⟩, hw''⟩ := hw'
  subst hw''
  go_wp2
  go_ret
  exact ⟨ret_int HW.out, below_gr (by go_grown) (by go_size) _ _⟩

set_option maxHeartbeats 400000 in
theorem rright_any (s c : Int) (w : World) :
    Calls Tryd.prog 9 #[.int .i64 s, .int .i64 c] w fun e w' => e = .returned (.bool (decide (right s c))) ∧ w' = w := by
  by_cases h : right s c
  · rw [decide_eq_true h]
    obtain ⟨h0, h1, h2, h3⟩ := h
    have h' : c = 1 ∨ c = 2 := by omega
    rcases h' with rfl | rfl
    all_goals
      go_enter Tryd.func9, Tryd.ntmps9
      go_wp2
      go_ret
      exact ⟨ret_bool (by first | rfl | (simp; omega)), rfl⟩
  · rw [decide_eq_false h]
    have h' : s < 0 ∨ (0 ≤ s ∧ 2 < s) ∨ (0 ≤ s ∧ s ≤ 2 ∧ c ≠ 1 ∧ c ≠ 2) := by unfold right at h; omega
    clear h
    rcases h' with h0 | ⟨h0, h1⟩ | ⟨h0, h1, h2, h3⟩
    all_goals
      go_enter Tryd.func9, Tryd.ntmps9
      go_wp2
      go_ret
      exact ⟨ret_bool (by first | rfl | (simp; omega)), rfl⟩

def rnF (s : Int) : Int := if s = 0 then 8 else if s = 1 then 16 else if s = 2 then 32 else 0
set_option maxHeartbeats 400000 in
theorem rn_any (s : Int) (w : World) :
    Calls Tryd.prog 16 #[.int .i64 s] w fun e w' => e = .returned (.int .i64 (rnF s)) ∧ w' = w := by
  by_cases h0 : s = 0
  · subst h0
    go_enter Tryd.func16, Tryd.ntmps16
    go_wp2
    go_ret
    exact ⟨rfl, rfl⟩
  · by_cases h1 : s = 1
    · subst h1
      go_enter Tryd.func16, Tryd.ntmps16
      go_wp2
      go_ret
      exact ⟨rfl, rfl⟩
    · by_cases h2 : s = 2
      · subst h2
        go_enter Tryd.func16, Tryd.ntmps16
        go_wp2
        go_ret
        exact ⟨rfl, rfl⟩
      · have e : Hid (rnF s = 0) := by show _ = _; unfold rnF; rw [if_neg h0, if_neg h1, if_neg h2]
        go_enter Tryd.func16, Tryd.ntmps16
        go_wp2
        go_ret
        exact ⟨ret_int (by rw [e.out]), rfl⟩

theorem rbands_any (s : Int) (w : World) (h0 : 0 ≤ s) (h1 : s < 3) :
    Calls Tryd.prog 17 #[.int .i64 s] w fun e w' => e = .returned (.int .i64 (s + 3)) ∧ w' = w := by
  go_enter Tryd.func17, Tryd.ntmps17
  go_wp2
  go_ret
  exact ⟨rfl, rfl⟩

set_option maxHeartbeats 400000 in
theorem rband_any (b : Nat) (w : World) (h : b < 5) :
    Calls Tryd.prog 18 #[.int .i64 b] w fun e w' => e = .returned (.tuple #[.int .i64 (frmF b), .int .i64 (widF b)]) ∧ w' = w := by
  match b, h with
  | 0, _ =>
    go_enter Tryd.func18, Tryd.ntmps18
    go_wp2
    go_ret2
    exact ⟨rfl, rfl⟩
  | 1, _ | 2, _ | 3, _ | 4, _ =>
    go_enter Tryd.func18, Tryd.ntmps18
    go_wp2
    go_rounds 6
    go_ret2
    exact ⟨rfl, rfl⟩

def ofV (n c : Int) : Int × Int × Int := if 1 ≤ c ∧ c ≤ 2 then (if n = 8 then (0, c, 0) else if n = 16 then (1, c, 0) else if n = 32 then (2, c, 0) else (0, 0, 2)) else (0, 0, 2)
theorem index_0 (a b c : Value) (w : World) : (Instr.index 45 (.agg #[a, b, c]) (.int .i64 0)).run Tryd.prog w = .ok a w := by kernel_rfl
theorem index_1 (a b c : Value) (w : World) : (Instr.index 45 (.agg #[a, b, c]) (.int .i64 1)).run Tryd.prog w = .ok b w := by kernel_rfl
theorem index_2 (a b c : Value) (w : World) : (Instr.index 45 (.agg #[a, b, c]) (.int .i64 2)).run Tryd.prog w = .ok c w := by kernel_rfl
attribute [local go_sem] index_0 index_1 index_2
set_option maxHeartbeats 1000000 in
theorem of_any (n c : Int) (w : World) (h : Hid (Tabs w)) :
    Calls Tryd.prog 19 #[.int .i64 n, .int .i64 c] w fun e w' => e = .returned (.tuple #[(.agg #[.int .i64 ((ofV n c).1), .int .i64 ((ofV n c).2.1)]), .int .i64 (ofV n c).2.2]) ∧ Below w.heap.size w w' := by
  have hz := h.out.size
  have z0 : 0 < w.heap.size := by omega
  have c0 : w.cell? ⟨0, 0, none⟩ = some (.int .i64 8) := h.out.smp (i := 0) (by omega)
  have c1 : w.cell? ⟨0, 1, none⟩ = some (.int .i64 16) := h.out.smp (i := 1) (by omega)
  have c2 : w.cell? ⟨0, 2, none⟩ = some (.int .i64 32) := h.out.smp (i := 2) (by omega)
  by_cases hc : 1 ≤ c ∧ c ≤ 2
  · have r0 : right 0 c := ⟨by omega, by omega, hc.1, hc.2⟩
    have r1 : right 1 c := ⟨by omega, by omega, hc.1, hc.2⟩
    have r2 : right 2 c := ⟨by omega, by omega, hc.1, hc.2⟩
    by_cases h8 : n = 8
    · subst h8
      have e : Hid (ofV 8 c = (0, c, 0)) := by show _ = _; unfold ofV; rw [if_pos hc, if_pos rfl]
      go_enter Tryd.func19, Tryd.ntmps19
      go_wp2
      refine wp_loop_rounds 4 ?_
      rw [rounds_succ]
      go_wp2_with (go_at_call 10; refine (right_yes _ _ _ r0).mono ?_; rintro e w1 ⟨rfl, hb⟩; obtain ⟨d1, os1, rfl⟩ := more_of hb)
      go_returns
      exact ⟨by rw [e.out], below_gr (by go_grown) (by go_size) _ _⟩
    · by_cases h16 : n = 16
      · subst h16
        have e : Hid (ofV 16 c = (1, c, 0)) := by show _ = _; unfold ofV; rw [if_pos hc, if_neg (by omega), if_pos rfl]
        go_enter Tryd.func19, Tryd.ntmps19
        go_wp2
        refine wp_loop_rounds 4 ?_
        rw [rounds_succ]
        go_wp2
        rw [rounds_succ]
        go_wp2_with (go_at_call 10; refine (right_yes _ _ _ r1).mono ?_; rintro e w1 ⟨rfl, hb⟩; obtain ⟨d1, os1, rfl⟩ := more_of hb)
        go_returns
        exact ⟨by rw [e.out], below_gr (by go_grown) (by go_size) _ _⟩
      · by_cases h32 : n = 32
        · subst h32
          have e : Hid (ofV 32 c = (2, c, 0)) := by show _ = _; unfold ofV; rw [if_pos hc, if_neg (by omega), if_neg (by omega), if_pos rfl]
          go_enter Tryd.func19, Tryd.ntmps19
          go_wp2
          refine wp_loop_rounds 4 ?_
          rw [rounds_succ]
          go_wp2
          rw [rounds_succ]
          go_wp2
          rw [rounds_succ]
          go_wp2_with (go_at_call 10; refine (right_yes _ _ _ r2).mono ?_; rintro e w1 ⟨rfl, hb⟩; obtain ⟨d1, os1, rfl⟩ := more_of hb)
          go_returns
          exact ⟨by rw [e.out], below_gr (by go_grown) (by go_size) _ _⟩
        · have e : Hid (ofV n c = (0, 0, 2)) := by show _ = _; unfold ofV; rw [if_pos hc, if_neg h8, if_neg h16, if_neg h32]
          have d8 : ¬ (8 = n) := fun h => h8 h.symm
          have d16 : ¬ (16 = n) := fun h => h16 h.symm
          have d32 : ¬ (32 = n) := fun h => h32 h.symm
          go_enter Tryd.func19, Tryd.ntmps19
          go_wp2
          go_rounds 4
          go_returns
          exact ⟨by rw [e.out], by go_grown⟩
  · have e : Hid (ofV n c = (0, 0, 2)) := by show _ = _; unfold ofV; rw [if_neg hc]
    have hr : ∀ s, ¬ right s c := fun s h => hc ⟨h.2.2.1, h.2.2.2⟩
    by_cases h8 : n = 8
    · subst h8
      go_enter Tryd.func19, Tryd.ntmps19
      go_wp2
      refine wp_loop_rounds 4 ?_
      rw [rounds_succ]
      go_wp2_with (go_at_call 10; refine (right_no _ _ _ (hr _)).mono ?_; rintro e w1 ⟨rfl, hb⟩; obtain ⟨d1, os1, rfl⟩ := more_of hb)
      rw [rounds_succ]
      go_wp2
      rw [rounds_succ]
      go_wp2
      rw [rounds_succ]
      go_wp2
      go_returns
      exact ⟨by rw [e.out], by (repeat' (first | (with_reducible exact Below.refl _ _) | (with_reducible refine below_gr ?_ ?_ _ _) | (with_reducible refine below_drewN ?_ _) | (with_reducible refine Below.drew ?_) | (with_reducible refine Below.alloc ?_ ?_ _) | (with_reducible refine Below.setCell ?_ ?_ _) | (with_reducible exact Nat.le_refl _) | (go_size; done) | (simp only [size_gr, World.size_alloc]; omega)))⟩
    · by_cases h16 : n = 16
      · subst h16
        go_enter Tryd.func19, Tryd.ntmps19
        go_wp2
        refine wp_loop_rounds 4 ?_
        rw [rounds_succ]
        go_wp2
        rw [rounds_succ]
        go_wp2_with (go_at_call 10; refine (right_no _ _ _ (hr _)).mono ?_; rintro e w1 ⟨rfl, hb⟩; obtain ⟨d1, os1, rfl⟩ := more_of hb)
        rw [rounds_succ]
        go_wp2
        rw [rounds_succ]
        go_wp2
        go_returns
        exact ⟨by rw [e.out], by (repeat' (first | (with_reducible exact Below.refl _ _) | (with_reducible refine below_gr ?_ ?_ _ _) | (with_reducible refine below_drewN ?_ _) | (with_reducible refine Below.drew ?_) | (with_reducible refine Below.alloc ?_ ?_ _) | (with_reducible refine Below.setCell ?_ ?_ _) | (with_reducible exact Nat.le_refl _) | (go_size; done) | (simp only [size_gr, World.size_alloc]; omega)))⟩
      · by_cases h32 : n = 32
        · subst h32
          go_enter Tryd.func19, Tryd.ntmps19
          go_wp2
          refine wp_loop_rounds 4 ?_
          rw [rounds_succ]
          go_wp2
          rw [rounds_succ]
          go_wp2
          rw [rounds_succ]
          go_wp2_with (go_at_call 10; refine (right_no _ _ _ (hr _)).mono ?_; rintro e w1 ⟨rfl, hb⟩; obtain ⟨d1, os1, rfl⟩ := more_of hb)
          rw [rounds_succ]
          go_wp2
          go_returns
          exact ⟨by rw [e.out], by (repeat' (first | (with_reducible exact Below.refl _ _) | (with_reducible refine below_gr ?_ ?_ _ _) | (with_reducible refine below_drewN ?_ _) | (with_reducible refine Below.drew ?_) | (with_reducible refine Below.alloc ?_ ?_ _) | (with_reducible refine Below.setCell ?_ ?_ _) | (with_reducible exact Nat.le_refl _) | (go_size; done) | (simp only [size_gr, World.size_alloc]; omega)))⟩
        · have d8 : ¬ (8 = n) := fun h => h8 h.symm
          have d16 : ¬ (16 = n) := fun h => h16 h.symm
          have d32 : ¬ (32 = n) := fun h => h32 h.symm
          go_enter Tryd.func19, Tryd.ntmps19
          go_wp2
          go_rounds 4
          go_returns
          exact ⟨by rw [e.out], by (repeat' (first | (with_reducible exact Below.refl _ _) | (with_reducible refine below_gr ?_ ?_ _ _) | (with_reducible refine below_drewN ?_ _) | (with_reducible refine Below.drew ?_) | (with_reducible refine Below.alloc ?_ ?_ _) | (with_reducible refine Below.setCell ?_ ?_ _) | (with_reducible exact Nat.le_refl _) | (go_size; done) | (simp only [size_gr, World.size_alloc]; omega)))⟩

theorem ret_of {a b c a' b' c' : Int} (h1 : a = a') (h2 : b = b') (h3 : c = c') : Ending.returned (.tuple #[(.agg #[.int .i64 (a), .int .i64 (b)]), .int .i64 c]) = .returned (.tuple #[(.agg #[.int .i64 (a'), .int .i64 (b')]), .int .i64 c']) := by rw [h1, h2, h3]
end Go.Proofs.YtkjaalcckdacoaaDoor
