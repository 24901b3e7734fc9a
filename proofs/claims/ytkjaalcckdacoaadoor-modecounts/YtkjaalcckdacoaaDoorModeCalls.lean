/-
  What each function of package mode (but Of, All, Count, Most) and of the document's own answer for layer 5 (spinetref05) answers. The tables of package mode lie in memory as the row lists them. Nothing that was there is turned.
-/
import Derived.Test.YtkjaalcckdacoaaDoorModeMath
import Derived.Test.YtkjaalcckdacoaaDoorIntsAt
import Derived.Test.YtkjaalcckdacoaaDoorMore
import Derived.Test.YtkjaalcckdacoaaDoorRows
import Derived.ProofKit
import Derived.OpenShut
import Derived.WalkSpells
import Derived.Handy
import Derived.WalkLawsBesides
import Derived.Below
import Derived.Deep.QuietTactic
import Derived.BigQuiet
import Derived.WalkSmall
import Derived.Deep.RegionHeld3
import Derived.Lib.QuietBelow
namespace Go.Proofs.YtkjaalcckdacoaaDoor
set_option linter.unusedVariables false
open Go.ChangeShapes Go.WideShapes Go.ChangeAt Go.RowKit
open Go.Sort (grow)
attribute [local go_sem] cell?_gr frozen?_gr setCell_gr size_gr drew_gr drewN_gr redrawn_drew redrawn_drewN redrawn_redrawn gr_gr

theorem ret_int {k : IntKind} {a b : Int} (h : a = b) : Ending.returned (.int k a) = .returned (.int k b) := by rw [h]
theorem ret_bool {a b : Bool} (h : a = b) : Ending.returned (.bool a) = .returned (.bool b) := by rw [h]

/-- The tables of package mode lie where the program has them. -/
def Tabs (w : World) : Prop := IntsAt w (some ⟨0, 0, none⟩) 3 .i64 smpF ∧ IntsAt w (some ⟨1, 0, none⟩) 5 .i64 widF
theorem Tabs.below {w w' : World} (h : Tabs w) (hb : Below w.heap.size w w') : Tabs w' := ⟨h.1.below hb, h.2.below hb⟩
theorem Tabs.smp {w : World} (h : Tabs w) {i : Nat} (hi : i < 3) : w.cell? ⟨0, i, none⟩ = some (.int .i64 (smpF i)) := by
  obtain ⟨b, off, h1, h2⟩ := h.1 i hi
  cases h1
  rw [Nat.zero_add] at h2; exact h2
theorem Tabs.wid {w : World} (h : Tabs w) {i : Nat} (hi : i < 5) : w.cell? ⟨1, i, none⟩ = some (.int .i64 (widF i)) := by
  obtain ⟨b, off, h1, h2⟩ := h.2 i hi
  cases h1
  rw [Nat.zero_add] at h2; exact h2
theorem Tabs.size {w : World} (h : Tabs w) : 1 < w.heap.size := block_lt_of_cell (h.wid (i := 0) (by omega))

set_option maxHeartbeats 400000 in
theorem right_yes (s c : Int) (w : World) (h : right s c) :
    Calls Tryd.prog 10 #[(.agg #[.int .i64 (s), .int .i64 (c)])] w fun e w' => e = .returned (.bool true) ∧ Below w.heap.size w w' := by
  obtain ⟨h0, h1, h2, h3⟩ := h
  go_enter Tryd.func10, Tryd.ntmps10
  go_wp2
  go_ret
  exact ⟨rfl, by go_grown⟩

set_option maxHeartbeats 400000 in
theorem right_no (s c : Int) (w : World) (h : ¬ right s c) :
    Calls Tryd.prog 10 #[(.agg #[.int .i64 (s), .int .i64 (c)])] w fun e w' => e = .returned (.bool false) ∧ Below w.heap.size w w' := by
  have h' : s < 0 ∨ (0 ≤ s ∧ 3 ≤ s) ∨ (0 ≤ s ∧ s < 3 ∧ c < 1) ∨ (0 ≤ s ∧ s < 3 ∧ 1 ≤ c ∧ 2 < c) := by unfold right at h; omega
  clear h
  rcases h' with h0 | ⟨h0, h1⟩ | ⟨h0, h1, h2⟩ | ⟨h0, h1, h2, h3⟩
  all_goals
    go_enter Tryd.func10, Tryd.ntmps10
    go_wp2
    go_ret
    exact ⟨ret_bool (by first | rfl | (simp; omega)), by go_grown⟩

theorem right_any (s c : Int) (w : World) :
    Calls Tryd.prog 10 #[(.agg #[.int .i64 (s), .int .i64 (c)])] w fun e w' => e = .returned (.bool (decide (right s c))) ∧ Below w.heap.size w w' := by
  by_cases h : right s c
  · rw [decide_eq_true h]; exact right_yes s c w h
  · rw [decide_eq_false h]; exact right_no s c w h

set_option maxHeartbeats 400000 in
theorem n_any (s c : Int) (w : World) (h : Hid (Tabs w)) :
    Calls Tryd.prog 11 #[(.agg #[.int .i64 (s), .int .i64 (c)])] w fun e w' => e = .returned (.int .i64 (nF s c)) ∧ Below w.heap.size w w' := by
  have hz := h.out.size
  have z0 : 0 < w.heap.size := by omega
  have z1 : ¬ 1 = w.heap.size := by omega
  by_cases hr : right s c
  · have hN : Hid (nF s c = smpF s.toNat) := by show _ = _; unfold nF; rw [if_pos hr]
    have hs : s.toNat < 3 := by unfold right at hr; omega
    have h0 : 0 ≤ s ∧ s < 3 := by unfold right at hr; omega
    have hc := h.out.smp hs
    go_enter Tryd.func11, Tryd.ntmps11
    go_wp2_with (go_at_call 10; refine (right_yes _ _ _ hr).mono ?_; rintro e w1 ⟨rfl, hb⟩; obtain ⟨d1, os1, rfl⟩ := more_of hb)
    go_ret
    exact ⟨ret_int (by rw [hN.out]), below_gr (by go_grown) (by go_size) _ _⟩
  · have hN : Hid (nF s c = 0) := by show _ = _; unfold nF; rw [if_neg hr]
    go_enter Tryd.func11, Tryd.ntmps11
    go_wp2_with (go_at_call 10; refine (right_no _ _ _ hr).mono ?_; rintro e w1 ⟨rfl, hb⟩; obtain ⟨d1, os1, rfl⟩ := more_of hb)
    go_ret
    exact ⟨ret_int (by rw [hN.out]), below_gr (by go_grown) (by go_size) _ _⟩

set_option maxHeartbeats 400000 in
theorem bands_any (s c : Int) (w : World) :
    Calls Tryd.prog 12 #[(.agg #[.int .i64 (s), .int .i64 (c)])] w fun e w' => e = .returned (.int .i64 (bandsF s c)) ∧ Below w.heap.size w w' := by
  by_cases hr : right s c
  · have hN : Hid (bandsF s c = 3 + s) := by show _ = _; unfold bandsF; rw [if_pos hr]
    have h0 : 0 ≤ s ∧ s < 3 := by unfold right at hr; omega
    go_enter Tryd.func12, Tryd.ntmps12
    go_wp2_with (go_at_call 10; refine (right_yes _ _ _ hr).mono ?_; rintro e w1 ⟨rfl, hb⟩; obtain ⟨d1, os1, rfl⟩ := more_of hb)
    go_ret
    exact ⟨ret_int (by rw [hN.out]), below_gr (by go_grown) (by go_size) _ _⟩
  · have hN : Hid (bandsF s c = 0) := by show _ = _; unfold bandsF; rw [if_neg hr]
    go_enter Tryd.func12, Tryd.ntmps12
    go_wp2_with (go_at_call 10; refine (right_no _ _ _ hr).mono ?_; rintro e w1 ⟨rfl, hb⟩; obtain ⟨d1, os1, rfl⟩ := more_of hb)
    go_ret
    exact ⟨ret_int (by rw [hN.out]), below_gr (by go_grown) (by go_size) _ _⟩

set_option maxHeartbeats 400000 in
theorem has_yes (s c b : Int) (w : World) (h : hasB s c b) :
    Calls Tryd.prog 23 #[(.agg #[.int .i64 (s), .int .i64 (c)]), .int .i64 b] w fun e w' => e = .returned (.bool true) ∧ Below w.heap.size w w' := by
  obtain ⟨h0, h1⟩ := h
  go_enter Tryd.func23, Tryd.ntmps23
  go_wp2_with (go_at_call 12; refine (bands_any _ _ _).mono ?_; rintro e w1 ⟨rfl, hb⟩; obtain ⟨d1, os1, rfl⟩ := more_of hb)
  go_ret
  exact ⟨rfl, below_gr (by go_grown) (by go_size) _ _⟩

set_option maxHeartbeats 400000 in
theorem has_no (s c b : Int) (w : World) (h : ¬ hasB s c b) :
    Calls Tryd.prog 23 #[(.agg #[.int .i64 (s), .int .i64 (c)]), .int .i64 b] w fun e w' => e = .returned (.bool false) ∧ Below w.heap.size w w' := by
  by_cases h0 : b < 0
  · go_enter Tryd.func23, Tryd.ntmps23
    go_wp2_with (go_at_call 12; refine (bands_any _ _ _).mono ?_; rintro e w1 ⟨rfl, hb⟩; obtain ⟨d1, os1, rfl⟩ := more_of hb)
    go_ret
    exact ⟨rfl, by go_grown⟩
  · have h1 : ¬ b < bandsF s c := by unfold hasB at h; omega
    have h2 : 0 ≤ b := by omega
    clear h
    go_enter Tryd.func23, Tryd.ntmps23
    go_wp2_with (go_at_call 12; refine (bands_any _ _ _).mono ?_; rintro e w1 ⟨rfl, hb⟩; obtain ⟨d1, os1, rfl⟩ := more_of hb)
    go_ret
    exact ⟨ret_bool (decide_eq_false (by omega)), below_gr (by go_grown) (by go_size) _ _⟩

set_option maxHeartbeats 400000 in
theorem width_any (s c b : Int) (w : World) (h : Hid (Tabs w)) :
    Calls Tryd.prog 13 #[(.agg #[.int .i64 (s), .int .i64 (c)]), .int .i64 b] w fun e w' => e = .returned (.int .i64 (widthF s c b)) ∧ Below w.heap.size w w' := by
  have hz := h.out.size
  have z0 : 0 < w.heap.size := by omega
  have z1 : ¬ 1 = w.heap.size := by omega
  by_cases hr : hasB s c b
  · have hN : Hid (widthF s c b = widF b.toNat) := by show _ = _; unfold widthF; rw [if_pos hr]
    have h0 := has_bd hr
    have hs : b.toNat < 5 := by omega
    have hc := h.out.wid hs
    go_enter Tryd.func13, Tryd.ntmps13
    go_wp2_with (go_at_call 23; refine (has_yes _ _ _ _ hr).mono ?_; rintro e w1 ⟨rfl, hb⟩; obtain ⟨d1, os1, rfl⟩ := more_of hb)
    go_ret
    exact ⟨ret_int (by rw [hN.out]), below_gr (by go_grown) (by go_size) _ _⟩
  · have hN : Hid (widthF s c b = 0) := by show _ = _; unfold widthF; rw [if_neg hr]
    go_enter Tryd.func13, Tryd.ntmps13
    go_wp2_with (go_at_call 23; refine (has_no _ _ _ _ hr).mono ?_; rintro e w1 ⟨rfl, hb⟩; obtain ⟨d1, os1, rfl⟩ := more_of hb)
    go_ret
    exact ⟨ret_int (by rw [hN.out]), below_gr (by go_grown) (by go_size) _ _⟩

set_option maxHeartbeats 400000 in
theorem from_any (s c b : Int) (w : World) (h : Hid (Tabs w)) :
    Calls Tryd.prog 14 #[(.agg #[.int .i64 (s), .int .i64 (c)]), .int .i64 b] w fun e w' => e = .returned (.int .i64 (fromF s c b)) ∧ Below w.heap.size w w' := by
  have hz := h.out.size
  have z0 : 0 < w.heap.size := by omega
  have z1 : ¬ 1 = w.heap.size := by omega
  by_cases hr : hasB s c b
  · have hN : Hid (fromF s c b = frmF b.toNat) := by show _ = _; unfold fromF; rw [if_pos hr]
    have h0 := has_bd hr
    have hcell : ∀ k : Nat, k < 5 → w.cell? ⟨1, k, none⟩ = some (.int .i64 (widF k)) := fun k hk => h.out.wid hk
    have HC : Hid _ := hcell
    clear hcell
    go_enter Tryd.func14, Tryd.ntmps14
    go_wp2_with (go_at_call 23; refine (has_yes _ _ _ _ hr).mono ?_; rintro e w1 ⟨rfl, hb⟩; obtain ⟨d1, os1, rfl⟩ := more_of hb)
    go_loop [5, 12] (fun f i => ∃ k : Nat, (k : Int) ≤ b ∧ i = .int .i64 k ∧ f = .int .i64 (frmF k)) (fun _ i => (b - intOf i).toNat)
    case atStart => exact ⟨0, by omega, rfl, rfl⟩
    case round =>
      obtain ⟨k, hk, rfl, rfl⟩ := hrel
      by_cases hlt : (k : Int) < b
      · have hc := HC.out k (by omega)
        have n1 := frm_bd (i := k) (by omega)
        have n2 := wid_bd (i := k) (by omega)
        have n3 : Hid _ := frm_next (i := k) (by omega)
        have n4 : (k : Int) < 5 := by omega
        go_wp2
        go_round
        case rel => exact ⟨k + 1, by omega, by go_num, by rw [n3.out]⟩
        case measure => simp [intOf]; omega
      · have e : b.toNat = k := by omega
        go_wp2
        go_ret
        exact ⟨ret_int (by rw [hN.out, e]), below_gr (by go_grown) (by go_size) _ _⟩
  · have hN : Hid (fromF s c b = 0) := by show _ = _; unfold fromF; rw [if_neg hr]
    go_enter Tryd.func14, Tryd.ntmps14
    go_wp2_with (go_at_call 23; refine (has_no _ _ _ _ hr).mono ?_; rintro e w1 ⟨rfl, hb⟩; obtain ⟨d1, os1, rfl⟩ := more_of hb)
    go_ret
    exact ⟨ret_int (by rw [hN.out]), below_gr (by go_grown) (by go_size) _ _⟩
end Go.Proofs.YtkjaalcckdacoaaDoor
