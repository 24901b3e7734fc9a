/-
  The laws ModeTells, ModeOf and ModeBands of layer 5 (mode), each as a walk: called at any arguments of its types, with the tables of package mode as the row lists them, it returns true, and nothing that was there has turned.
-/
import Derived.Test.YtkjaalcckdacoaaDoorModeCalls2
namespace Go.Proofs.YtkjaalcckdacoaaDoor
set_option linter.unusedVariables false
open Go.ChangeShapes Go.WideShapes Go.ChangeAt Go.RowKit
open Go.Sort (grow)
attribute [local go_sem] cell?_gr frozen?_gr setCell_gr size_gr drew_gr drewN_gr redrawn_drew redrawn_drewN redrawn_redrawn gr_gr heap_redrawn Array.size_append
attribute [local go_sem] lt_1 lt_11 lt_2 lt_21 lt_3 lt_31 lt_4 lt_41 lt_5 lt_51 lt_6 lt_61

theorem Tabs.gr {w : World} (h : Tabs w) (d : Nat) (os : Array Obj) : Tabs (grow (redrawn w d) os) := h.below (below_regrown w d os)
theorem Tabs.alloc {w : World} (h : Tabs w) (o : Obj) : Tabs (w.alloc o) := h.below ((Below.refl _ _).alloc (Nat.le_refl _) _)

theorem eql_md (a b c d : Int) (w : World) : (binOp .eql 24 (.agg #[.int .i64 (a), .int .i64 (b)]) (.agg #[.int .i64 (c), .int .i64 (d)])).run Tryd.prog w = .ok (.bool (a == c && b == d)) w := by
  rw [run_eql_struct]
  by_cases h : a = c <;> by_cases h' : b = d <;> simp [go_sem, h, h']
theorem neq_md (a b c d : Int) (w : World) : (binOp .neq 24 (.agg #[.int .i64 (a), .int .i64 (b)]) (.agg #[.int .i64 (c), .int .i64 (d)])).run Tryd.prog w = .ok (.bool (!(a == c && b == d))) w := by
  rw [run_neq_struct]
  by_cases h : a = c <;> by_cases h' : b = d <;> simp [go_sem, h, h']
attribute [local go_sem] eql_md neq_md

set_option maxHeartbeats 400000 in
theorem awake_m (w : World) (h : Hid (Tabs w)) :
    Calls Tryd.prog 8 #[] w fun e w' => e = .returned (.bool true) ∧ Below w.heap.size w w' := by
  have e1 : bandsF 1 2 = 4 := by decide
  have e2 : fromF 1 2 3 = 8 := by decide
  have e3 : nF 1 2 * 2 = 32 := by decide
  have E : Hid (ofV 16 2 = (1, 2, 0)) := by show _ = _; decide
  go_enter Tryd.func8, Tryd.ntmps8
  go_wp2_with (first | (go_at_call 19; refine (of_any _ _ _ h).mono ?_; rintro e w0 ⟨rfl, hb0⟩; rw [E.out]) | (first | (go_at_call 10; refine (right_any _ _ _).mono ?_; rintro e w1 ⟨rfl, hb⟩; obtain ⟨d1, os1, rfl⟩ := more_of hb; clear hb) | (go_at_call 11; refine (n_any _ _ _ (by show Tabs _; repeat (first | (with_reducible exact h.out) | (with_reducible refine Tabs.gr ?_ _ _) | (with_reducible refine Tabs.alloc ?_ _) | (with_reducible exact Tabs.below h.out (by assumption))))).mono ?_; rintro e w1 ⟨rfl, hb⟩; obtain ⟨d1, os1, rfl⟩ := more_of hb; clear hb) | (go_at_call 12; refine (bands_any _ _ _).mono ?_; rintro e w1 ⟨rfl, hb⟩; obtain ⟨d1, os1, rfl⟩ := more_of hb; clear hb) | (go_at_call 13; refine (width_any _ _ _ _ (by show Tabs _; repeat (first | (with_reducible exact h.out) | (with_reducible refine Tabs.gr ?_ _ _) | (with_reducible refine Tabs.alloc ?_ _) | (with_reducible exact Tabs.below h.out (by assumption))))).mono ?_; rintro e w1 ⟨rfl, hb⟩; obtain ⟨d1, os1, rfl⟩ := more_of hb; clear hb) | (go_at_call 14; refine (from_any _ _ _ _ (by show Tabs _; repeat (first | (with_reducible exact h.out) | (with_reducible refine Tabs.gr ?_ _ _) | (with_reducible refine Tabs.alloc ?_ _) | (with_reducible exact Tabs.below h.out (by assumption))))).mono ?_; rintro e w1 ⟨rfl, hb⟩; obtain ⟨d1, os1, rfl⟩ := more_of hb; clear hb) | (go_at_call 15; refine (samples_any _ _ _ (by show Tabs _; repeat (first | (with_reducible exact h.out) | (with_reducible refine Tabs.gr ?_ _ _) | (with_reducible refine Tabs.alloc ?_ _) | (with_reducible exact Tabs.below h.out (by assumption))))).mono ?_; rintro e w1 ⟨rfl, hb⟩; obtain ⟨d1, os1, rfl⟩ := more_of hb; clear hb)))
  go_ret
  exact ⟨rfl, hb0.trans (Below.mono (by repeat' (first | (with_reducible exact Below.refl _ _) | (with_reducible refine below_gr ?_ ?_ _ _) | (with_reducible refine below_drewN ?_ _) | (with_reducible refine Below.drew ?_) | (with_reducible refine Below.alloc ?_ ?_ _) | (with_reducible refine Below.setCell ?_ ?_ _) | (with_reducible exact Nat.le_refl _) | (go_size; done) | (simp only [size_gr, World.size_alloc]; omega))) hb0.size)⟩

theorem ref_n {s c : Int} (h : right s c) : rnF s = nF s c := by
  obtain ⟨hs, hc⟩ := right_cases h
  unfold nF; rw [if_pos h]
  rcases hs with rfl | rfl | rfl <;> rfl
theorem ref_bands {s c : Int} (h : right s c) : s + 3 = bandsF s c := by unfold bandsF; rw [if_pos h]; omega

set_option maxHeartbeats 1000000 in
theorem tells_wrong (s c b : Int) (w : World) (h : Hid (Tabs w)) (hr : ¬ right s c) :
    Calls Tryd.prog 3 #[.int .i64 s, .int .i64 c, .int .i64 b] w fun e w' => e = .returned (.bool true) ∧ Below w.heap.size w w' := by
  have e1 : nF s c = 0 := by unfold nF; rw [if_neg hr]
  have e2 : bandsF s c = 0 := by unfold bandsF; rw [if_neg hr]
  have hh : ¬ hasB s c b := by unfold hasB; omega
  have e3 : widthF s c b = 0 := by unfold widthF; rw [if_neg hh]
  have e4 : fromF s c b = 0 := by unfold fromF; rw [if_neg hh]
  have e5 : nF s c * c = 0 := by rw [e1, Int.zero_mul]
  have E1 : Hid _ := e1
  have E2 : Hid _ := e2
  have E3 : Hid _ := e3
  have E4 : Hid _ := e4
  have E5 : Hid _ := e5
  clear e1 e2 e3 e4 e5 hh
  go_enter Tryd.func3, Tryd.ntmps3
  go_wp2_with (first | (go_at_call 8; refine (awake_m _ h).mono ?_; rintro e w0 ⟨rfl, hb0⟩) | (go_at_call 9; refine (rright_any _ _ _).mono ?_; rintro e w' ⟨rfl, rfl⟩; rw [decide_eq_false hr]))
  refine wp_region_quiet_below (by kernel_rfl) (by kernel_rfl) ?_
  repeat (go_big_quiet_step (first | (go_at_call 10; refine Calls.regrown_of (right_no _ _ _ hr)) | (go_at_call 11; refine Calls.regrown_of (E1.out ▸ n_any _ _ _ (by show Tabs _; repeat (first | (with_reducible exact h.out) | (with_reducible refine Tabs.gr ?_ _ _) | (with_reducible refine Tabs.alloc ?_ _) | (with_reducible exact Tabs.below h.out (by assumption)))))) | (go_at_call 12; refine Calls.regrown_of (E2.out ▸ bands_any _ _ _)) | (go_at_call 13; refine Calls.regrown_of (E3.out ▸ width_any _ _ _ _ (by show Tabs _; repeat (first | (with_reducible exact h.out) | (with_reducible refine Tabs.gr ?_ _ _) | (with_reducible refine Tabs.alloc ?_ _) | (with_reducible exact Tabs.below h.out (by assumption)))))) | (go_at_call 14; refine Calls.regrown_of (E4.out ▸ from_any _ _ _ _ (by show Tabs _; repeat (first | (with_reducible exact h.out) | (with_reducible refine Tabs.gr ?_ _ _) | (with_reducible refine Tabs.alloc ?_ _) | (with_reducible exact Tabs.below h.out (by assumption)))))) | (go_at_call 15; refine Calls.regrown_of (E5.out ▸ samples_any _ _ _ (by show Tabs _; repeat (first | (with_reducible exact h.out) | (with_reducible refine Tabs.gr ?_ _ _) | (with_reducible refine Tabs.alloc ?_ _) | (with_reducible exact Tabs.below h.out (by assumption))))))))
  refine wpQuiet_nil ?_
  intro _ hw'
  obtain ⟨⟨dq, osq⟩, hw''⟩ := hw'
  subst hw''
  go_wp2
  go_ret
  exact ⟨rfl, hb0.trans (Below.mono (by repeat' (first | (with_reducible exact Below.refl _ _) | (with_reducible refine below_gr ?_ ?_ _ _) | (with_reducible refine below_drewN ?_ _) | (with_reducible refine Below.drew ?_) | (with_reducible refine Below.alloc ?_ ?_ _) | (with_reducible refine Below.setCell ?_ ?_ _) | (with_reducible exact Nat.le_refl _) | (go_size; done) | (simp only [size_gr, World.size_alloc]; omega))) hb0.size)⟩

set_option maxHeartbeats 1000000 in
theorem tells_out (s c b : Int) (w : World) (h : Hid (Tabs w)) (hr : right s c) (hh : ¬ hasB s c b) :
    Calls Tryd.prog 3 #[.int .i64 s, .int .i64 c, .int .i64 b] w fun e w' => e = .returned (.bool true) ∧ Below w.heap.size w w' := by
  have e3 : widthF s c b = 0 := by unfold widthF; rw [if_neg hh]
  have e4 : fromF s c b = 0 := by unfold fromF; rw [if_neg hh]
  have e5 := samples_in s c
  have R1 : Hid _ := ref_n hr
  have R2 : Hid _ := ref_bands hr
  have h0 : 0 ≤ s ∧ s < 3 := ⟨hr.1, hr.2.1⟩
  by_cases hb : b < 0
  · go_enter Tryd.func3, Tryd.ntmps3
    go_wp2_with (first | (go_at_call 8; refine (awake_m _ h).mono ?_; rintro e w0 ⟨rfl, hb0⟩) | (go_at_call 9; refine (rright_any _ _ _).mono ?_; rintro e w' ⟨rfl, rfl⟩; rw [decide_eq_true hr]) | (go_at_call 16; refine (rn_any _ _).mono ?_; rintro e w' ⟨rfl, rfl⟩; rw [R1.out]) | (go_at_call 17; refine (rbands_any _ _ h0.1 h0.2).mono ?_; rintro e w' ⟨rfl, rfl⟩; rw [R2.out]) | (first | (go_at_call 10; refine (right_yes _ _ _ hr).mono ?_; rintro e w1 ⟨rfl, hb⟩; obtain ⟨d1, os1, rfl⟩ := more_of hb; clear hb) | (first | (go_at_call 10; refine (right_any _ _ _).mono ?_; rintro e w1 ⟨rfl, hb⟩; obtain ⟨d1, os1, rfl⟩ := more_of hb; clear hb) | (go_at_call 11; refine (n_any _ _ _ (by show Tabs _; repeat (first | (with_reducible exact h.out) | (with_reducible refine Tabs.gr ?_ _ _) | (with_reducible refine Tabs.alloc ?_ _) | (with_reducible exact Tabs.below h.out (by assumption))))).mono ?_; rintro e w1 ⟨rfl, hb⟩; obtain ⟨d1, os1, rfl⟩ := more_of hb; clear hb) | (go_at_call 12; refine (bands_any _ _ _).mono ?_; rintro e w1 ⟨rfl, hb⟩; obtain ⟨d1, os1, rfl⟩ := more_of hb; clear hb) | (go_at_call 13; refine (width_any _ _ _ _ (by show Tabs _; repeat (first | (with_reducible exact h.out) | (with_reducible refine Tabs.gr ?_ _ _) | (with_reducible refine Tabs.alloc ?_ _) | (with_reducible exact Tabs.below h.out (by assumption))))).mono ?_; rintro e w1 ⟨rfl, hb⟩; obtain ⟨d1, os1, rfl⟩ := more_of hb; clear hb) | (go_at_call 14; refine (from_any _ _ _ _ (by show Tabs _; repeat (first | (with_reducible exact h.out) | (with_reducible refine Tabs.gr ?_ _ _) | (with_reducible refine Tabs.alloc ?_ _) | (with_reducible exact Tabs.below h.out (by assumption))))).mono ?_; rintro e w1 ⟨rfl, hb⟩; obtain ⟨d1, os1, rfl⟩ := more_of hb; clear hb) | (go_at_call 15; refine (samples_any _ _ _ (by show Tabs _; repeat (first | (with_reducible exact h.out) | (with_reducible refine Tabs.gr ?_ _ _) | (with_reducible refine Tabs.alloc ?_ _) | (with_reducible exact Tabs.below h.out (by assumption))))).mono ?_; rintro e w1 ⟨rfl, hb⟩; obtain ⟨d1, os1, rfl⟩ := more_of hb; clear hb))))
    go_ret
    exact ⟨rfl, hb0.trans (Below.mono (by repeat' (first | (with_reducible exact Below.refl _ _) | (with_reducible refine below_gr ?_ ?_ _ _) | (with_reducible refine below_drewN ?_ _) | (with_reducible refine Below.drew ?_) | (with_reducible refine Below.alloc ?_ ?_ _) | (with_reducible refine Below.setCell ?_ ?_ _) | (with_reducible exact Nat.le_refl _) | (go_size; done) | (simp only [size_gr, World.size_alloc]; omega))) hb0.size)⟩
  · have hb1 : bandsF s c ≤ b := by unfold hasB at hh; omega
    have hb2 : 0 ≤ b := by omega
    go_enter Tryd.func3, Tryd.ntmps3
    go_wp2_with (first | (go_at_call 8; refine (awake_m _ h).mono ?_; rintro e w0 ⟨rfl, hb0⟩) | (go_at_call 9; refine (rright_any _ _ _).mono ?_; rintro e w' ⟨rfl, rfl⟩; rw [decide_eq_true hr]) | (go_at_call 16; refine (rn_any _ _).mono ?_; rintro e w' ⟨rfl, rfl⟩; rw [R1.out]) | (go_at_call 17; refine (rbands_any _ _ h0.1 h0.2).mono ?_; rintro e w' ⟨rfl, rfl⟩; rw [R2.out]) | (first | (go_at_call 10; refine (right_yes _ _ _ hr).mono ?_; rintro e w1 ⟨rfl, hb⟩; obtain ⟨d1, os1, rfl⟩ := more_of hb; clear hb) | (first | (go_at_call 10; refine (right_any _ _ _).mono ?_; rintro e w1 ⟨rfl, hb⟩; obtain ⟨d1, os1, rfl⟩ := more_of hb; clear hb) | (go_at_call 11; refine (n_any _ _ _ (by show Tabs _; repeat (first | (with_reducible exact h.out) | (with_reducible refine Tabs.gr ?_ _ _) | (with_reducible refine Tabs.alloc ?_ _) | (with_reducible exact Tabs.below h.out (by assumption))))).mono ?_; rintro e w1 ⟨rfl, hb⟩; obtain ⟨d1, os1, rfl⟩ := more_of hb; clear hb) | (go_at_call 12; refine (bands_any _ _ _).mono ?_; rintro e w1 ⟨rfl, hb⟩; obtain ⟨d1, os1, rfl⟩ := more_of hb; clear hb) | (go_at_call 13; refine (width_any _ _ _ _ (by show Tabs _; repeat (first | (with_reducible exact h.out) | (with_reducible refine Tabs.gr ?_ _ _) | (with_reducible refine Tabs.alloc ?_ _) | (with_reducible exact Tabs.below h.out (by assumption))))).mono ?_; rintro e w1 ⟨rfl, hb⟩; obtain ⟨d1, os1, rfl⟩ := more_of hb; clear hb) | (go_at_call 14; refine (from_any _ _ _ _ (by show Tabs _; repeat (first | (with_reducible exact h.out) | (with_reducible refine Tabs.gr ?_ _ _) | (with_reducible refine Tabs.alloc ?_ _) | (with_reducible exact Tabs.below h.out (by assumption))))).mono ?_; rintro e w1 ⟨rfl, hb⟩; obtain ⟨d1, os1, rfl⟩ := more_of hb; clear hb) | (go_at_call 15; refine (samples_any _ _ _ (by show Tabs _; repeat (first | (with_reducible exact h.out) | (with_reducible refine Tabs.gr ?_ _ _) | (with_reducible refine Tabs.alloc ?_ _) | (with_reducible exact Tabs.below h.out (by assumption))))).mono ?_; rintro e w1 ⟨rfl, hb⟩; obtain ⟨d1, os1, rfl⟩ := more_of hb; clear hb))))
    go_ret
    exact ⟨rfl, hb0.trans (Below.mono (by repeat' (first | (with_reducible exact Below.refl _ _) | (with_reducible refine below_gr ?_ ?_ _ _) | (with_reducible refine below_drewN ?_ _) | (with_reducible refine Below.drew ?_) | (with_reducible refine Below.alloc ?_ ?_ _) | (with_reducible refine Below.setCell ?_ ?_ _) | (with_reducible exact Nat.le_refl _) | (go_size; done) | (simp only [size_gr, World.size_alloc]; omega))) hb0.size)⟩

set_option maxHeartbeats 1000000 in
theorem tells_in (s c : Int) (b : Nat) (w : World) (h : Hid (Tabs w)) (hr : right s c) (hh : hasB s c b) :
    Calls Tryd.prog 3 #[.int .i64 s, .int .i64 c, .int .i64 b] w fun e w' => e = .returned (.bool true) ∧ Below w.heap.size w w' := by
  have e3 : widthF s c b = widF b := by unfold widthF; rw [if_pos hh]; rfl
  have e4 : fromF s c b = frmF b := by unfold fromF; rw [if_pos hh]; rfl
  have e5 := samples_in s c
  have R1 : Hid _ := ref_n hr
  have R2 : Hid _ := ref_bands hr
  have h0 : 0 ≤ s ∧ s < 3 := ⟨hr.1, hr.2.1⟩
  have hb1 : (b : Int) < bandsF s c := hh.2
  have hb2 : b < 5 := by have := has_bd hh; omega
  go_enter Tryd.func3, Tryd.ntmps3
  go_wp2_with (first | (go_at_call 8; refine (awake_m _ h).mono ?_; rintro e w0 ⟨rfl, hb0⟩) | (go_at_call 9; refine (rright_any _ _ _).mono ?_; rintro e w' ⟨rfl, rfl⟩; rw [decide_eq_true hr]) | (go_at_call 16; refine (rn_any _ _).mono ?_; rintro e w' ⟨rfl, rfl⟩; rw [R1.out]) | (go_at_call 17; refine (rbands_any _ _ h0.1 h0.2).mono ?_; rintro e w' ⟨rfl, rfl⟩; rw [R2.out]) | (go_at_call 18; refine (rband_any _ _ hb2).mono ?_; rintro e w' ⟨rfl, rfl⟩) | (first | (go_at_call 10; refine (right_yes _ _ _ hr).mono ?_; rintro e w1 ⟨rfl, hb⟩; obtain ⟨d1, os1, rfl⟩ := more_of hb; clear hb) | (first | (go_at_call 10; refine (right_any _ _ _).mono ?_; rintro e w1 ⟨rfl, hb⟩; obtain ⟨d1, os1, rfl⟩ := more_of hb; clear hb) | (go_at_call 11; refine (n_any _ _ _ (by show Tabs _; repeat (first | (with_reducible exact h.out) | (with_reducible refine Tabs.gr ?_ _ _) | (with_reducible refine Tabs.alloc ?_ _) | (with_reducible exact Tabs.below h.out (by assumption))))).mono ?_; rintro e w1 ⟨rfl, hb⟩; obtain ⟨d1, os1, rfl⟩ := more_of hb; clear hb) | (go_at_call 12; refine (bands_any _ _ _).mono ?_; rintro e w1 ⟨rfl, hb⟩; obtain ⟨d1, os1, rfl⟩ := more_of hb; clear hb) | (go_at_call 13; refine (width_any _ _ _ _ (by show Tabs _; repeat (first | (with_reducible exact h.out) | (with_reducible refine Tabs.gr ?_ _ _) | (with_reducible refine Tabs.alloc ?_ _) | (with_reducible exact Tabs.below h.out (by assumption))))).mono ?_; rintro e w1 ⟨rfl, hb⟩; obtain ⟨d1, os1, rfl⟩ := more_of hb; clear hb) | (go_at_call 14; refine (from_any _ _ _ _ (by show Tabs _; repeat (first | (with_reducible exact h.out) | (with_reducible refine Tabs.gr ?_ _ _) | (with_reducible refine Tabs.alloc ?_ _) | (with_reducible exact Tabs.below h.out (by assumption))))).mono ?_; rintro e w1 ⟨rfl, hb⟩; obtain ⟨d1, os1, rfl⟩ := more_of hb; clear hb) | (go_at_call 15; refine (samples_any _ _ _ (by show Tabs _; repeat (first | (with_reducible exact h.out) | (with_reducible refine Tabs.gr ?_ _ _) | (with_reducible refine Tabs.alloc ?_ _) | (with_reducible exact Tabs.below h.out (by assumption))))).mono ?_; rintro e w1 ⟨rfl, hb⟩; obtain ⟨d1, os1, rfl⟩ := more_of hb; clear hb))))
  go_ret
  exact ⟨rfl, hb0.trans (Below.mono (by repeat' (first | (with_reducible exact Below.refl _ _) | (with_reducible refine below_gr ?_ ?_ _ _) | (with_reducible refine below_drewN ?_ _) | (with_reducible refine Below.drew ?_) | (with_reducible refine Below.alloc ?_ ?_ _) | (with_reducible refine Below.setCell ?_ ?_ _) | (with_reducible exact Nat.le_refl _) | (go_size; done) | (simp only [size_gr, World.size_alloc]; omega))) hb0.size)⟩

theorem tells_law (s c b : Int) (w : World) (h : Hid (Tabs w)) :
    Calls Tryd.prog 3 #[.int .i64 s, .int .i64 c, .int .i64 b] w fun e w' => e = .returned (.bool true) ∧ Below w.heap.size w w' := by
  by_cases hr : right s c
  · by_cases hh : hasB s c b
    · obtain ⟨k, rfl⟩ : ∃ k : Nat, b = k := ⟨b.toNat, by have := hh.1; omega⟩
      exact tells_in s c k w h hr hh
    · exact tells_out s c b w h hr hh
  · exact tells_wrong s c b w h hr

set_option maxHeartbeats 2000000 in
theorem of_law (n c : Int) (w : World) (h : Hid (Tabs w)) :
    Calls Tryd.prog 4 #[.int .i64 n, .int .i64 c] w fun e w' => e = .returned (.bool true) ∧ Below w.heap.size w w' := by
  have n0 : rnF 0 = 8 := by decide
  have n1 : rnF 1 = 16 := by decide
  have n2 : rnF 2 = 32 := by decide
  by_cases hc : 1 ≤ c ∧ c ≤ 2
  · have r : ∀ s : Int, 0 ≤ s → s < 3 → decide (right s c) = true := fun s h0 h1 => decide_eq_true ⟨h0, h1, hc.1, hc.2⟩
    by_cases h8 : n = 8
    · subst h8
      have E : Hid (ofV 8 c = (0, c, 0)) := by show _ = _; unfold ofV; rw [if_pos hc, if_pos rfl]
      go_enter Tryd.func4, Tryd.ntmps4
      go_wp2_with (first | (go_at_call 8; refine (awake_m _ h).mono ?_; rintro e w0 ⟨rfl, hb0⟩) | (go_at_call 19; refine (of_any _ _ _ (h.out.below hb0)).mono ?_; rintro e w1 ⟨rfl, hb1⟩; rw [E.out]))
      refine wp_loop_rounds 4 ?_
      rw [rounds_succ]
      go_wp2_with (first | (go_at_call 9; refine (rright_any _ _ _).mono ?_; rintro e w' ⟨rfl, rfl⟩; rw [r _ (by omega) (by omega)]) | (go_at_call 16; refine (rn_any _ _).mono ?_; rintro e w' ⟨rfl, rfl⟩; first | rw [n0] | rw [n1] | rw [n2]))
      go_ret
      exact ⟨rfl, hb0.trans ((hb1.trans (Below.mono (by repeat' (first | (with_reducible exact Below.refl _ _) | (with_reducible refine below_gr ?_ ?_ _ _) | (with_reducible refine below_drewN ?_ _) | (with_reducible refine Below.drew ?_) | (with_reducible refine Below.alloc ?_ ?_ _) | (with_reducible refine Below.setCell ?_ ?_ _) | (with_reducible exact Nat.le_refl _) | (go_size; done) | (simp only [size_gr, World.size_alloc]; omega))) hb1.size)).mono hb0.size)⟩
    · skip
      by_cases h16 : n = 16
      · subst h16
        have E : Hid (ofV 16 c = (1, c, 0)) := by show _ = _; unfold ofV; rw [if_pos hc, if_neg (by omega), if_pos rfl]
        go_enter Tryd.func4, Tryd.ntmps4
        go_wp2_with (first | (go_at_call 8; refine (awake_m _ h).mono ?_; rintro e w0 ⟨rfl, hb0⟩) | (go_at_call 19; refine (of_any _ _ _ (h.out.below hb0)).mono ?_; rintro e w1 ⟨rfl, hb1⟩; rw [E.out]))
        refine wp_loop_rounds 4 ?_
        rw [rounds_succ]
        go_wp2_with (first | (go_at_call 9; refine (rright_any _ _ _).mono ?_; rintro e w' ⟨rfl, rfl⟩; rw [r _ (by omega) (by omega)]) | (go_at_call 16; refine (rn_any _ _).mono ?_; rintro e w' ⟨rfl, rfl⟩; first | rw [n0] | rw [n1] | rw [n2]))
        rw [rounds_succ]
        go_wp2_with (first | (go_at_call 9; refine (rright_any _ _ _).mono ?_; rintro e w' ⟨rfl, rfl⟩; rw [r _ (by omega) (by omega)]) | (go_at_call 16; refine (rn_any _ _).mono ?_; rintro e w' ⟨rfl, rfl⟩; first | rw [n0] | rw [n1] | rw [n2]))
        go_ret
        exact ⟨rfl, hb0.trans ((hb1.trans (Below.mono (by repeat' (first | (with_reducible exact Below.refl _ _) | (with_reducible refine below_gr ?_ ?_ _ _) | (with_reducible refine below_drewN ?_ _) | (with_reducible refine Below.drew ?_) | (with_reducible refine Below.alloc ?_ ?_ _) | (with_reducible refine Below.setCell ?_ ?_ _) | (with_reducible exact Nat.le_refl _) | (go_size; done) | (simp only [size_gr, World.size_alloc]; omega))) hb1.size)).mono hb0.size)⟩
      · skip
        by_cases h32 : n = 32
        · subst h32
          have E : Hid (ofV 32 c = (2, c, 0)) := by show _ = _; unfold ofV; rw [if_pos hc, if_neg (by omega), if_neg (by omega), if_pos rfl]
          go_enter Tryd.func4, Tryd.ntmps4
          go_wp2_with (first | (go_at_call 8; refine (awake_m _ h).mono ?_; rintro e w0 ⟨rfl, hb0⟩) | (go_at_call 19; refine (of_any _ _ _ (h.out.below hb0)).mono ?_; rintro e w1 ⟨rfl, hb1⟩; rw [E.out]))
          refine wp_loop_rounds 4 ?_
          rw [rounds_succ]
          go_wp2_with (first | (go_at_call 9; refine (rright_any _ _ _).mono ?_; rintro e w' ⟨rfl, rfl⟩; rw [r _ (by omega) (by omega)]) | (go_at_call 16; refine (rn_any _ _).mono ?_; rintro e w' ⟨rfl, rfl⟩; first | rw [n0] | rw [n1] | rw [n2]))
          rw [rounds_succ]
          go_wp2_with (first | (go_at_call 9; refine (rright_any _ _ _).mono ?_; rintro e w' ⟨rfl, rfl⟩; rw [r _ (by omega) (by omega)]) | (go_at_call 16; refine (rn_any _ _).mono ?_; rintro e w' ⟨rfl, rfl⟩; first | rw [n0] | rw [n1] | rw [n2]))
          rw [rounds_succ]
          go_wp2_with (first | (go_at_call 9; refine (rright_any _ _ _).mono ?_; rintro e w' ⟨rfl, rfl⟩; rw [r _ (by omega) (by omega)]) | (go_at_call 16; refine (rn_any _ _).mono ?_; rintro e w' ⟨rfl, rfl⟩; first | rw [n0] | rw [n1] | rw [n2]))
          go_ret
          exact ⟨rfl, hb0.trans ((hb1.trans (Below.mono (by repeat' (first | (with_reducible exact Below.refl _ _) | (with_reducible refine below_gr ?_ ?_ _ _) | (with_reducible refine below_drewN ?_ _) | (with_reducible refine Below.drew ?_) | (with_reducible refine Below.alloc ?_ ?_ _) | (with_reducible refine Below.setCell ?_ ?_ _) | (with_reducible exact Nat.le_refl _) | (go_size; done) | (simp only [size_gr, World.size_alloc]; omega))) hb1.size)).mono hb0.size)⟩
        · have d8 : ¬ (8 = n) := fun h => h8 h.symm
          have d16 : ¬ (16 = n) := fun h => h16 h.symm
          have d32 : ¬ (32 = n) := fun h => h32 h.symm
          have E : Hid (ofV n c = (0, 0, 2)) := by show _ = _; unfold ofV; rw [if_pos hc, if_neg h8, if_neg h16, if_neg h32]
          go_enter Tryd.func4, Tryd.ntmps4
          go_wp2_with (first | (go_at_call 8; refine (awake_m _ h).mono ?_; rintro e w0 ⟨rfl, hb0⟩) | (go_at_call 19; refine (of_any _ _ _ (h.out.below hb0)).mono ?_; rintro e w1 ⟨rfl, hb1⟩; rw [E.out]))
          refine wp_loop_rounds 4 ?_
          rw [rounds_succ]
          go_wp2_with (first | (go_at_call 9; refine (rright_any _ _ _).mono ?_; rintro e w' ⟨rfl, rfl⟩; rw [r _ (by omega) (by omega)]) | (go_at_call 16; refine (rn_any _ _).mono ?_; rintro e w' ⟨rfl, rfl⟩; first | rw [n0] | rw [n1] | rw [n2]))
          rw [rounds_succ]
          go_wp2_with (first | (go_at_call 9; refine (rright_any _ _ _).mono ?_; rintro e w' ⟨rfl, rfl⟩; rw [r _ (by omega) (by omega)]) | (go_at_call 16; refine (rn_any _ _).mono ?_; rintro e w' ⟨rfl, rfl⟩; first | rw [n0] | rw [n1] | rw [n2]))
          rw [rounds_succ]
          go_wp2_with (first | (go_at_call 9; refine (rright_any _ _ _).mono ?_; rintro e w' ⟨rfl, rfl⟩; rw [r _ (by omega) (by omega)]) | (go_at_call 16; refine (rn_any _ _).mono ?_; rintro e w' ⟨rfl, rfl⟩; first | rw [n0] | rw [n1] | rw [n2]))
          rw [rounds_succ]
          go_wp2_with (first | (go_at_call 9; refine (rright_any _ _ _).mono ?_; rintro e w' ⟨rfl, rfl⟩; rw [r _ (by omega) (by omega)]) | (go_at_call 16; refine (rn_any _ _).mono ?_; rintro e w' ⟨rfl, rfl⟩; first | rw [n0] | rw [n1] | rw [n2]))
          go_ret
          exact ⟨rfl, hb0.trans ((hb1.trans (Below.mono (by repeat' (first | (with_reducible exact Below.refl _ _) | (with_reducible refine below_gr ?_ ?_ _ _) | (with_reducible refine below_drewN ?_ _) | (with_reducible refine Below.drew ?_) | (with_reducible refine Below.alloc ?_ ?_ _) | (with_reducible refine Below.setCell ?_ ?_ _) | (with_reducible exact Nat.le_refl _) | (go_size; done) | (simp only [size_gr, World.size_alloc]; omega))) hb1.size)).mono hb0.size)⟩
  · have r : ∀ s : Int, 0 ≤ s → s < 3 → decide (right s c) = false := fun s h0 h1 => decide_eq_false (fun h => hc ⟨h.2.2.1, h.2.2.2⟩)
    by_cases h8 : n = 8
    · subst h8
      have E : Hid (ofV 8 c = (0, 0, 2)) := by show _ = _; unfold ofV; rw [if_neg hc]
      go_enter Tryd.func4, Tryd.ntmps4
      go_wp2_with (first | (go_at_call 8; refine (awake_m _ h).mono ?_; rintro e w0 ⟨rfl, hb0⟩) | (go_at_call 19; refine (of_any _ _ _ (h.out.below hb0)).mono ?_; rintro e w1 ⟨rfl, hb1⟩; rw [E.out]))
      refine wp_loop_rounds 4 ?_
      rw [rounds_succ]
      go_wp2_with (first | (go_at_call 9; refine (rright_any _ _ _).mono ?_; rintro e w' ⟨rfl, rfl⟩; rw [r _ (by omega) (by omega)]) | (go_at_call 16; refine (rn_any _ _).mono ?_; rintro e w' ⟨rfl, rfl⟩; first | rw [n0] | rw [n1] | rw [n2]))
      rw [rounds_succ]
      go_wp2_with (first | (go_at_call 9; refine (rright_any _ _ _).mono ?_; rintro e w' ⟨rfl, rfl⟩; rw [r _ (by omega) (by omega)]) | (go_at_call 16; refine (rn_any _ _).mono ?_; rintro e w' ⟨rfl, rfl⟩; first | rw [n0] | rw [n1] | rw [n2]))
      rw [rounds_succ]
      go_wp2_with (first | (go_at_call 9; refine (rright_any _ _ _).mono ?_; rintro e w' ⟨rfl, rfl⟩; rw [r _ (by omega) (by omega)]) | (go_at_call 16; refine (rn_any _ _).mono ?_; rintro e w' ⟨rfl, rfl⟩; first | rw [n0] | rw [n1] | rw [n2]))
      rw [rounds_succ]
      go_wp2_with (first | (go_at_call 9; refine (rright_any _ _ _).mono ?_; rintro e w' ⟨rfl, rfl⟩; rw [r _ (by omega) (by omega)]) | (go_at_call 16; refine (rn_any _ _).mono ?_; rintro e w' ⟨rfl, rfl⟩; first | rw [n0] | rw [n1] | rw [n2]))
      go_ret
      exact ⟨rfl, hb0.trans ((hb1.trans (Below.mono (by repeat' (first | (with_reducible exact Below.refl _ _) | (with_reducible refine below_gr ?_ ?_ _ _) | (with_reducible refine below_drewN ?_ _) | (with_reducible refine Below.drew ?_) | (with_reducible refine Below.alloc ?_ ?_ _) | (with_reducible refine Below.setCell ?_ ?_ _) | (with_reducible exact Nat.le_refl _) | (go_size; done) | (simp only [size_gr, World.size_alloc]; omega))) hb1.size)).mono hb0.size)⟩
    · skip
      by_cases h16 : n = 16
      · subst h16
        have E : Hid (ofV 16 c = (0, 0, 2)) := by show _ = _; unfold ofV; rw [if_neg hc]
        go_enter Tryd.func4, Tryd.ntmps4
        go_wp2_with (first | (go_at_call 8; refine (awake_m _ h).mono ?_; rintro e w0 ⟨rfl, hb0⟩) | (go_at_call 19; refine (of_any _ _ _ (h.out.below hb0)).mono ?_; rintro e w1 ⟨rfl, hb1⟩; rw [E.out]))
        refine wp_loop_rounds 4 ?_
        rw [rounds_succ]
        go_wp2_with (first | (go_at_call 9; refine (rright_any _ _ _).mono ?_; rintro e w' ⟨rfl, rfl⟩; rw [r _ (by omega) (by omega)]) | (go_at_call 16; refine (rn_any _ _).mono ?_; rintro e w' ⟨rfl, rfl⟩; first | rw [n0] | rw [n1] | rw [n2]))
        rw [rounds_succ]
        go_wp2_with (first | (go_at_call 9; refine (rright_any _ _ _).mono ?_; rintro e w' ⟨rfl, rfl⟩; rw [r _ (by omega) (by omega)]) | (go_at_call 16; refine (rn_any _ _).mono ?_; rintro e w' ⟨rfl, rfl⟩; first | rw [n0] | rw [n1] | rw [n2]))
        rw [rounds_succ]
        go_wp2_with (first | (go_at_call 9; refine (rright_any _ _ _).mono ?_; rintro e w' ⟨rfl, rfl⟩; rw [r _ (by omega) (by omega)]) | (go_at_call 16; refine (rn_any _ _).mono ?_; rintro e w' ⟨rfl, rfl⟩; first | rw [n0] | rw [n1] | rw [n2]))
        rw [rounds_succ]
        go_wp2_with (first | (go_at_call 9; refine (rright_any _ _ _).mono ?_; rintro e w' ⟨rfl, rfl⟩; rw [r _ (by omega) (by omega)]) | (go_at_call 16; refine (rn_any _ _).mono ?_; rintro e w' ⟨rfl, rfl⟩; first | rw [n0] | rw [n1] | rw [n2]))
        go_ret
        exact ⟨rfl, hb0.trans ((hb1.trans (Below.mono (by repeat' (first | (with_reducible exact Below.refl _ _) | (with_reducible refine below_gr ?_ ?_ _ _) | (with_reducible refine below_drewN ?_ _) | (with_reducible refine Below.drew ?_) | (with_reducible refine Below.alloc ?_ ?_ _) | (with_reducible refine Below.setCell ?_ ?_ _) | (with_reducible exact Nat.le_refl _) | (go_size; done) | (simp only [size_gr, World.size_alloc]; omega))) hb1.size)).mono hb0.size)⟩
      · skip
        by_cases h32 : n = 32
        · subst h32
          have E : Hid (ofV 32 c = (0, 0, 2)) := by show _ = _; unfold ofV; rw [if_neg hc]
          go_enter Tryd.func4, Tryd.ntmps4
          go_wp2_with (first | (go_at_call 8; refine (awake_m _ h).mono ?_; rintro e w0 ⟨rfl, hb0⟩) | (go_at_call 19; refine (of_any _ _ _ (h.out.below hb0)).mono ?_; rintro e w1 ⟨rfl, hb1⟩; rw [E.out]))
          refine wp_loop_rounds 4 ?_
          rw [rounds_succ]
          go_wp2_with (first | (go_at_call 9; refine (rright_any _ _ _).mono ?_; rintro e w' ⟨rfl, rfl⟩; rw [r _ (by omega) (by omega)]) | (go_at_call 16; refine (rn_any _ _).mono ?_; rintro e w' ⟨rfl, rfl⟩; first | rw [n0] | rw [n1] | rw [n2]))
          rw [rounds_succ]
          go_wp2_with (first | (go_at_call 9; refine (rright_any _ _ _).mono ?_; rintro e w' ⟨rfl, rfl⟩; rw [r _ (by omega) (by omega)]) | (go_at_call 16; refine (rn_any _ _).mono ?_; rintro e w' ⟨rfl, rfl⟩; first | rw [n0] | rw [n1] | rw [n2]))
          rw [rounds_succ]
          go_wp2_with (first | (go_at_call 9; refine (rright_any _ _ _).mono ?_; rintro e w' ⟨rfl, rfl⟩; rw [r _ (by omega) (by omega)]) | (go_at_call 16; refine (rn_any _ _).mono ?_; rintro e w' ⟨rfl, rfl⟩; first | rw [n0] | rw [n1] | rw [n2]))
          rw [rounds_succ]
          go_wp2_with (first | (go_at_call 9; refine (rright_any _ _ _).mono ?_; rintro e w' ⟨rfl, rfl⟩; rw [r _ (by omega) (by omega)]) | (go_at_call 16; refine (rn_any _ _).mono ?_; rintro e w' ⟨rfl, rfl⟩; first | rw [n0] | rw [n1] | rw [n2]))
          go_ret
          exact ⟨rfl, hb0.trans ((hb1.trans (Below.mono (by repeat' (first | (with_reducible exact Below.refl _ _) | (with_reducible refine below_gr ?_ ?_ _ _) | (with_reducible refine below_drewN ?_ _) | (with_reducible refine Below.drew ?_) | (with_reducible refine Below.alloc ?_ ?_ _) | (with_reducible refine Below.setCell ?_ ?_ _) | (with_reducible exact Nat.le_refl _) | (go_size; done) | (simp only [size_gr, World.size_alloc]; omega))) hb1.size)).mono hb0.size)⟩
        · have d8 : ¬ (8 = n) := fun h => h8 h.symm
          have d16 : ¬ (16 = n) := fun h => h16 h.symm
          have d32 : ¬ (32 = n) := fun h => h32 h.symm
          have E : Hid (ofV n c = (0, 0, 2)) := by show _ = _; unfold ofV; rw [if_neg hc]
          go_enter Tryd.func4, Tryd.ntmps4
          go_wp2_with (first | (go_at_call 8; refine (awake_m _ h).mono ?_; rintro e w0 ⟨rfl, hb0⟩) | (go_at_call 19; refine (of_any _ _ _ (h.out.below hb0)).mono ?_; rintro e w1 ⟨rfl, hb1⟩; rw [E.out]))
          refine wp_loop_rounds 4 ?_
          rw [rounds_succ]
          go_wp2_with (first | (go_at_call 9; refine (rright_any _ _ _).mono ?_; rintro e w' ⟨rfl, rfl⟩; rw [r _ (by omega) (by omega)]) | (go_at_call 16; refine (rn_any _ _).mono ?_; rintro e w' ⟨rfl, rfl⟩; first | rw [n0] | rw [n1] | rw [n2]))
          rw [rounds_succ]
          go_wp2_with (first | (go_at_call 9; refine (rright_any _ _ _).mono ?_; rintro e w' ⟨rfl, rfl⟩; rw [r _ (by omega) (by omega)]) | (go_at_call 16; refine (rn_any _ _).mono ?_; rintro e w' ⟨rfl, rfl⟩; first | rw [n0] | rw [n1] | rw [n2]))
          rw [rounds_succ]
          go_wp2_with (first | (go_at_call 9; refine (rright_any _ _ _).mono ?_; rintro e w' ⟨rfl, rfl⟩; rw [r _ (by omega) (by omega)]) | (go_at_call 16; refine (rn_any _ _).mono ?_; rintro e w' ⟨rfl, rfl⟩; first | rw [n0] | rw [n1] | rw [n2]))
          rw [rounds_succ]
          go_wp2_with (first | (go_at_call 9; refine (rright_any _ _ _).mono ?_; rintro e w' ⟨rfl, rfl⟩; rw [r _ (by omega) (by omega)]) | (go_at_call 16; refine (rn_any _ _).mono ?_; rintro e w' ⟨rfl, rfl⟩; first | rw [n0] | rw [n1] | rw [n2]))
          go_ret
          exact ⟨rfl, hb0.trans ((hb1.trans (Below.mono (by repeat' (first | (with_reducible exact Below.refl _ _) | (with_reducible refine below_gr ?_ ?_ _ _) | (with_reducible refine below_drewN ?_ _) | (with_reducible refine Below.drew ?_) | (with_reducible refine Below.alloc ?_ ?_ _) | (with_reducible refine Below.setCell ?_ ?_ _) | (with_reducible exact Nat.le_refl _) | (go_size; done) | (simp only [size_gr, World.size_alloc]; omega))) hb1.size)).mono hb0.size)⟩


def atF (k : Nat) : Int := [0, 2, 4, 8, 16, 32].getD k 0
theorem at_next {s c : Int} {k : Nat} (h : hasB s c k) : fromF s c k = atF k ∧ atF k + widthF s c k = atF (k + 1) ∧ 2 ≤ widthF s c k ∧ 0 ≤ atF k ∧ atF k + widthF s c k ≤ 32 := by
  have hb := has_bd h
  unfold fromF widthF
  rw [if_pos h, if_pos h]
  match k, (by omega : k < 5) with
  | 0, _ | 1, _ | 2, _ | 3, _ | 4, _ => exact ⟨by decide, by decide, by decide, by decide, by decide⟩
theorem at_last {s c : Int} (h : right s c) : atF (bandsF s c).toNat = nF s c ∧ 0 < bandsF s c := by
  unfold bandsF nF
  rw [if_pos h, if_pos h]
  obtain ⟨hs, hc⟩ := right_cases h
  rcases hs with rfl | rfl | rfl <;> exact ⟨by decide, by decide⟩

set_option maxHeartbeats 1000000 in
theorem bands_law (a b : Int) (w : World) (h : Hid (Tabs w)) (ha : 0 ≤ a) (ha' : a ≤ 255) (hb : 0 ≤ b) (hb' : b ≤ 255) :
    Calls Tryd.prog 5 #[.int .u8 a, .int .u8 b] w fun e w' => e = .returned (.bool true) ∧ Below w.heap.size w w' := by
  have ta : a.tmod 3 = a % 3 := by rw [Int.tmod_eq_emod_of_nonneg ha]
  have tb : b.tmod 2 = b % 2 := by rw [Int.tmod_eq_emod_of_nonneg hb]
  have hr : right (a % 3) (b % 2 + 1) := by unfold right; omega
  obtain ⟨s, hs⟩ : ∃ s, a % 3 = s := ⟨_, rfl⟩
  obtain ⟨c, hc⟩ : ∃ c, b % 2 = c := ⟨_, rfl⟩
  have hc' : 0 ≤ c ∧ c ≤ 1 := by omega
  rw [hs, hc] at hr
  rw [hs] at ta
  rw [hc] at tb
  clear hs hc
  have hB := bands_bd s (c + 1)
  have L : Hid _ := at_last hr
  go_enter Tryd.func5, Tryd.ntmps5
  go_wp2_with (go_at_call 8; refine (awake_m _ h).mono ?_; rintro e w0 ⟨rfl, hb0⟩)
  go_loopw [6, 7] (fun t i wr => ∃ k : Nat, (k : Int) ≤ bandsF s (c + 1) ∧ i = .int .i64 k ∧ t = .int .i64 (atF k) ∧ Hid (Below (w0.heap.size + 1) (w0.alloc (.cells #[.int .i64 s, .int .i64 (c + 1)] 24)) wr)) (fun _ i _ => (bandsF s (c + 1) - intOf i).toNat)
  case atStart => exact ⟨0, by omega, rfl, rfl, Below.refl _ _⟩
  case round =>
    obtain ⟨k, hk, rfl, rfl, HB⟩ := hrel
    have hsz : w0.heap.size < wr.heap.size := by have := HB.out.size; simp at this; omega
    have c0 : wr.cell? ⟨w0.heap.size, 0, none⟩ = some (.int .i64 s) := by rw [HB.out.cell (by simp)]; go_simp
    have c1 : wr.cell? ⟨w0.heap.size, 1, none⟩ = some (.int .i64 (c + 1)) := by rw [HB.out.cell (by simp)]; go_simp
    have h2 : Tabs wr := ((h.out.below hb0).alloc _).below (by simpa using HB.out)
    clear h
    have h : Hid (Tabs wr) := h2
    clear h2
    by_cases hlt : (k : Int) < bandsF s (c + 1)
    · have hh : hasB s (c + 1) k := ⟨by omega, hlt⟩
      have A := at_next hh
      have a1 := A.1
      have A2 : Hid _ := A.2.1
      have a3 := A.2.2
      clear A
      go_wp2_with (first | (go_at_call 10; refine (right_any _ _ _).mono ?_; rintro e w1 ⟨rfl, hb⟩; obtain ⟨d1, os1, rfl⟩ := more_of hb; clear hb) | (go_at_call 11; refine (n_any _ _ _ (by show Tabs _; repeat (first | (with_reducible exact h.out) | (with_reducible refine Tabs.gr ?_ _ _) | (with_reducible refine Tabs.alloc ?_ _) | (with_reducible exact Tabs.below h.out (by assumption))))).mono ?_; rintro e w1 ⟨rfl, hb⟩; obtain ⟨d1, os1, rfl⟩ := more_of hb; clear hb) | (go_at_call 12; refine (bands_any _ _ _).mono ?_; rintro e w1 ⟨rfl, hb⟩; obtain ⟨d1, os1, rfl⟩ := more_of hb; clear hb) | (go_at_call 13; refine (width_any _ _ _ _ (by show Tabs _; repeat (first | (with_reducible exact h.out) | (with_reducible refine Tabs.gr ?_ _ _) | (with_reducible refine Tabs.alloc ?_ _) | (with_reducible exact Tabs.below h.out (by assumption))))).mono ?_; rintro e w1 ⟨rfl, hb⟩; obtain ⟨d1, os1, rfl⟩ := more_of hb; clear hb) | (go_at_call 14; refine (from_any _ _ _ _ (by show Tabs _; repeat (first | (with_reducible exact h.out) | (with_reducible refine Tabs.gr ?_ _ _) | (with_reducible refine Tabs.alloc ?_ _) | (with_reducible exact Tabs.below h.out (by assumption))))).mono ?_; rintro e w1 ⟨rfl, hb⟩; obtain ⟨d1, os1, rfl⟩ := more_of hb; clear hb) | (go_at_call 15; refine (samples_any _ _ _ (by show Tabs _; repeat (first | (with_reducible exact h.out) | (with_reducible refine Tabs.gr ?_ _ _) | (with_reducible refine Tabs.alloc ?_ _) | (with_reducible exact Tabs.below h.out (by assumption))))).mono ?_; rintro e w1 ⟨rfl, hb⟩; obtain ⟨d1, os1, rfl⟩ := more_of hb; clear hb))
      go_roundw
      case rel => exact ⟨k + 1, by omega, by go_num, by rw [A2.out], HB.out.trans ((below_regrown wr _ _).mono (by omega))⟩
      case measure => simp [intOf]; omega
    · have e : (bandsF s (c + 1)).toNat = k := by omega
      have a1 := L.out.1
      have a2 := L.out.2
      rw [e] at a1
      go_wp2_with (first | (go_at_call 10; refine (right_any _ _ _).mono ?_; rintro e w1 ⟨rfl, hb⟩; obtain ⟨d1, os1, rfl⟩ := more_of hb; clear hb) | (go_at_call 11; refine (n_any _ _ _ (by show Tabs _; repeat (first | (with_reducible exact h.out) | (with_reducible refine Tabs.gr ?_ _ _) | (with_reducible refine Tabs.alloc ?_ _) | (with_reducible exact Tabs.below h.out (by assumption))))).mono ?_; rintro e w1 ⟨rfl, hb⟩; obtain ⟨d1, os1, rfl⟩ := more_of hb; clear hb) | (go_at_call 12; refine (bands_any _ _ _).mono ?_; rintro e w1 ⟨rfl, hb⟩; obtain ⟨d1, os1, rfl⟩ := more_of hb; clear hb) | (go_at_call 13; refine (width_any _ _ _ _ (by show Tabs _; repeat (first | (with_reducible exact h.out) | (with_reducible refine Tabs.gr ?_ _ _) | (with_reducible refine Tabs.alloc ?_ _) | (with_reducible exact Tabs.below h.out (by assumption))))).mono ?_; rintro e w1 ⟨rfl, hb⟩; obtain ⟨d1, os1, rfl⟩ := more_of hb; clear hb) | (go_at_call 14; refine (from_any _ _ _ _ (by show Tabs _; repeat (first | (with_reducible exact h.out) | (with_reducible refine Tabs.gr ?_ _ _) | (with_reducible refine Tabs.alloc ?_ _) | (with_reducible exact Tabs.below h.out (by assumption))))).mono ?_; rintro e w1 ⟨rfl, hb⟩; obtain ⟨d1, os1, rfl⟩ := more_of hb; clear hb) | (go_at_call 15; refine (samples_any _ _ _ (by show Tabs _; repeat (first | (with_reducible exact h.out) | (with_reducible refine Tabs.gr ?_ _ _) | (with_reducible refine Tabs.alloc ?_ _) | (with_reducible exact Tabs.below h.out (by assumption))))).mono ?_; rintro e w1 ⟨rfl, hb⟩; obtain ⟨d1, os1, rfl⟩ := more_of hb; clear hb))
      go_ret
      exact ⟨rfl, (hb0.trans (Below.mono (Below.alloc (Below.refl _ _) (Nat.le_refl _) _) hb0.size)).trans ((HB.out.trans ((below_regrown wr _ _).mono (by omega))).mono (by have := hb0.size; omega))⟩
end Go.Proofs.YtkjaalcckdacoaaDoor
