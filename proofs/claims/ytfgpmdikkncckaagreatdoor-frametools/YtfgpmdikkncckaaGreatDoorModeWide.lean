/-
  What Right, Bands and Width of package mode, and Right, Bands and Band of the document's own answer for layer 5 (spinetref05), answer, where the table of widths alone lies in memory as the row lists it (as in layer 14 and behind). Nothing that was there is turned.
-/
import Derived.Test.YtfgpmdikkncckaaGreatDoorModeMath
import Derived.Test.YtfgpmdikkncckaaGreatDoorIntsAt
import Derived.Test.YtfgpmdikkncckaaGreatDoorLaidInts
import Derived.Test.YtfgpmdikkncckaaGreatDoorMore
import Derived.Test.YtfgpmdikkncckaaGreatDoorMrgK
import Derived.Handy
import Derived.Below
import Derived.Deep.QuietTactic
import Derived.BigQuiet
import Derived.Deep.RegionHeld3
import Derived.Lib.QuietBelow
namespace Go.Proofs.YtfgpmdikkncckaaGreatDoor
set_option linter.unusedVariables false
open Go.ChangeShapes Go.WideShapes Go.ChangeAt Go.RowKit
open Go.Sort (grow)
attribute [local go_sem] cell?_gr frozen?_gr setCell_gr size_gr drew_gr drewN_gr redrawn_drew redrawn_drewN redrawn_redrawn gr_gr

theorem ret_int {k : IntKind} {a b : Int} (h : a = b) : Ending.returned (.int k a) = .returned (.int k b) := by rw [h]
theorem ret_bool {a b : Bool} (h : a = b) : Ending.returned (.bool a) = .returned (.bool b) := by rw [h]

/-- The table of widths lies where the program has it. -/
def WTab (w : World) : Prop := IntsAt w (some ⟨0, 0, none⟩) 5 .i64 widF
theorem WTab.below {w w' : World} (h : WTab w) (hb : Below w.heap.size w w') : WTab w' := IntsAt.below h hb
theorem WTab.grown {w w' : World} (h : WTab w) (hb : w.grownBy w' none) : WTab w' := h.below (gN_below hb)
theorem WTab.wid {w : World} (h : WTab w) {i : Nat} (hi : i < 5) : w.cell? ⟨0, i, none⟩ = some (.int .i64 (widF i)) := by
  obtain ⟨b, off, h1, h2⟩ := h i hi
  cases h1
  rw [Nat.zero_add] at h2; exact h2
theorem WTab.size {w : World} (h : WTab w) : 0 < w.heap.size := block_lt_of_cell (h.wid (i := 0) (by omega))
theorem WTab.bk {w w' : World} {b : Nat} {mo mo' : Option Nat} (h : WTab w) (hB : Bk w b mo) (hG : Gb w w' b mo mo') : WTab w' := by
  obtain ⟨S, _, hB⟩ := hB
  intro i hi
  exact ⟨0, 0, rfl, by rw [Nat.zero_add]; exact cell_gb hB hG (h.wid hi)⟩
theorem wtab_laid {W : World} {l : List (String × DataW Unit)} (h : laidMet Tryz.prog l W) (hm : ("spinet/mode.widths", Lib.tabData .i64 widT) ∈ l) : WTab W :=
  ints_laid widT (g := 0) (by kernel_rfl) (by kernel_rfl) (Tryz.underlying31) (Tryz.underlying3) (by kernel_rfl) (by kernel_rfl) hm h

set_option maxHeartbeats 400000 in
theorem right_yes (s c : Int) (w : World) (h : right s c) :
    Calls Tryz.prog 30 #[(.agg #[.int .i64 (s), .int .i64 (c)])] w fun e w' => e = .returned (.bool true) ∧ Below w.heap.size w w' := by
  obtain ⟨h0, h1, h2, h3⟩ := h
  go_enter Tryz.func30, Tryz.ntmps30
  go_wp2
  go_ret
  exact ⟨rfl, by go_grown⟩

set_option maxHeartbeats 400000 in
theorem right_no (s c : Int) (w : World) (h : ¬ right s c) :
    Calls Tryz.prog 30 #[(.agg #[.int .i64 (s), .int .i64 (c)])] w fun e w' => e = .returned (.bool false) ∧ Below w.heap.size w w' := by
  have h' : s < 0 ∨ (0 ≤ s ∧ 3 ≤ s) ∨ (0 ≤ s ∧ s < 3 ∧ c < 1) ∨ (0 ≤ s ∧ s < 3 ∧ 1 ≤ c ∧ 2 < c) := by unfold right at h; omega
  clear h
  rcases h' with h0 | ⟨h0, h1⟩ | ⟨h0, h1, h2⟩ | ⟨h0, h1, h2, h3⟩
  all_goals
    go_enter Tryz.func30, Tryz.ntmps30
    go_wp2
    go_ret
    exact ⟨ret_bool (by first | rfl | (simp; omega)), by go_grown⟩

theorem right_any (s c : Int) (w : World) :
    Calls Tryz.prog 30 #[(.agg #[.int .i64 (s), .int .i64 (c)])] w fun e w' => e = .returned (.bool (decide (right s c))) ∧ Below w.heap.size w w' := by
  by_cases h : right s c
  · rw [decide_eq_true h]; exact right_yes s c w h
  · rw [decide_eq_false h]; exact right_no s c w h

set_option maxHeartbeats 400000 in
theorem bands_any (s c : Int) (w : World) :
    Calls Tryz.prog 21 #[(.agg #[.int .i64 (s), .int .i64 (c)])] w fun e w' => e = .returned (.int .i64 (bandsF s c)) ∧ Below w.heap.size w w' := by
  by_cases hr : right s c
  · have hN : Hid (bandsF s c = 3 + s) := by show _ = _; unfold bandsF; rw [if_pos hr]
    have h0 : 0 ≤ s ∧ s < 3 := by unfold right at hr; omega
    go_enter Tryz.func21, Tryz.ntmps21
    go_wp2_with (go_at_call 30; refine (right_yes _ _ _ hr).mono ?_; rintro e w1 ⟨rfl, hb⟩; obtain ⟨d1, os1, rfl⟩ := more_of hb)
    go_ret
    exact ⟨ret_int (by rw [hN.out]), below_gr (by go_grown) (by go_size) _ _⟩
  · have hN : Hid (bandsF s c = 0) := by show _ = _; unfold bandsF; rw [if_neg hr]
    go_enter Tryz.func21, Tryz.ntmps21
    go_wp2_with (go_at_call 30; refine (right_no _ _ _ hr).mono ?_; rintro e w1 ⟨rfl, hb⟩; obtain ⟨d1, os1, rfl⟩ := more_of hb)
    go_ret
    exact ⟨ret_int (by rw [hN.out]), below_gr (by go_grown) (by go_size) _ _⟩

set_option maxHeartbeats 400000 in
theorem has_yes (s c b : Int) (w : World) (h : hasB s c b) :
    Calls Tryz.prog 52 #[(.agg #[.int .i64 (s), .int .i64 (c)]), .int .i64 b] w fun e w' => e = .returned (.bool true) ∧ Below w.heap.size w w' := by
  obtain ⟨h0, h1⟩ := h
  go_enter Tryz.func52, Tryz.ntmps52
  go_wp2_with (go_at_call 21; refine (bands_any _ _ _).mono ?_; rintro e w1 ⟨rfl, hb⟩; obtain ⟨d1, os1, rfl⟩ := more_of hb)
  go_ret
  exact ⟨rfl, below_gr (by go_grown) (by go_size) _ _⟩

set_option maxHeartbeats 400000 in
theorem has_no (s c b : Int) (w : World) (h : ¬ hasB s c b) :
    Calls Tryz.prog 52 #[(.agg #[.int .i64 (s), .int .i64 (c)]), .int .i64 b] w fun e w' => e = .returned (.bool false) ∧ Below w.heap.size w w' := by
  by_cases h0 : b < 0
  · go_enter Tryz.func52, Tryz.ntmps52
    go_wp2_with (go_at_call 21; refine (bands_any _ _ _).mono ?_; rintro e w1 ⟨rfl, hb⟩; obtain ⟨d1, os1, rfl⟩ := more_of hb)
    go_ret
    exact ⟨rfl, by go_grown⟩
  · have h1 : ¬ b < bandsF s c := by unfold hasB at h; omega
    have h2 : 0 ≤ b := by omega
    clear h
    go_enter Tryz.func52, Tryz.ntmps52
    go_wp2_with (go_at_call 21; refine (bands_any _ _ _).mono ?_; rintro e w1 ⟨rfl, hb⟩; obtain ⟨d1, os1, rfl⟩ := more_of hb)
    go_ret
    exact ⟨ret_bool (decide_eq_false (by omega)), below_gr (by go_grown) (by go_size) _ _⟩

set_option maxHeartbeats 400000 in
theorem width_any (s c b : Int) (w : World) (h : Hid (WTab w)) :
    Calls Tryz.prog 23 #[(.agg #[.int .i64 (s), .int .i64 (c)]), .int .i64 b] w fun e w' => e = .returned (.int .i64 (widthF s c b)) ∧ Below w.heap.size w w' := by
  have hz := h.out.size
  have z0 : 0 < w.heap.size := by omega
  have z1 : ¬ 0 = w.heap.size := by omega
  by_cases hr : hasB s c b
  · have hN : Hid (widthF s c b = widF b.toNat) := by show _ = _; unfold widthF; rw [if_pos hr]
    have h0 := has_bd hr
    have hs : b.toNat < 5 := by omega
    have hc := h.out.wid hs
    go_enter Tryz.func23, Tryz.ntmps23
    go_wp2_with (go_at_call 52; refine (has_yes _ _ _ _ hr).mono ?_; rintro e w1 ⟨rfl, hb⟩; obtain ⟨d1, os1, rfl⟩ := more_of hb)
    go_ret
    exact ⟨ret_int (by rw [hN.out]), below_gr (by go_grown) (by go_size) _ _⟩
  · have hN : Hid (widthF s c b = 0) := by show _ = _; unfold widthF; rw [if_neg hr]
    go_enter Tryz.func23, Tryz.ntmps23
    go_wp2_with (go_at_call 52; refine (has_no _ _ _ _ hr).mono ?_; rintro e w1 ⟨rfl, hb⟩; obtain ⟨d1, os1, rfl⟩ := more_of hb)
    go_ret
    exact ⟨ret_int (by rw [hN.out]), below_gr (by go_grown) (by go_size) _ _⟩

set_option maxHeartbeats 400000 in
theorem rright_any (s c : Int) (w : World) :
    Calls Tryz.prog 25 #[.int .i64 s, .int .i64 c] w fun e w' => e = .returned (.bool (decide (right s c))) ∧ w' = w := by
  by_cases h : right s c
  · rw [decide_eq_true h]
    obtain ⟨h0, h1, h2, h3⟩ := h
    have h' : c = 1 ∨ c = 2 := by omega
    rcases h' with rfl | rfl
    all_goals
      go_enter Tryz.func25, Tryz.ntmps25
      go_wp2
      go_ret
      exact ⟨ret_bool (by first | rfl | (simp; omega)), rfl⟩
  · rw [decide_eq_false h]
    have h' : s < 0 ∨ (0 ≤ s ∧ 2 < s) ∨ (0 ≤ s ∧ s ≤ 2 ∧ c ≠ 1 ∧ c ≠ 2) := by unfold right at h; omega
    clear h
    rcases h' with h0 | ⟨h0, h1⟩ | ⟨h0, h1, h2, h3⟩
    all_goals
      go_enter Tryz.func25, Tryz.ntmps25
      go_wp2
      go_ret
      exact ⟨ret_bool (by first | rfl | (simp; omega)), rfl⟩

theorem rbands_any (s : Int) (w : World) (h0 : 0 ≤ s) (h1 : s < 3) :
    Calls Tryz.prog 42 #[.int .i64 s] w fun e w' => e = .returned (.int .i64 (s + 3)) ∧ w' = w := by
  go_enter Tryz.func42, Tryz.ntmps42
  go_wp2
  go_ret
  exact ⟨rfl, rfl⟩

set_option maxHeartbeats 400000 in
theorem rband_any (b : Nat) (w : World) (h : b < 5) :
    Calls Tryz.prog 49 #[.int .i64 b] w fun e w' => e = .returned (.tuple #[.int .i64 (frmF b), .int .i64 (widF b)]) ∧ w' = w := by
  match b, h with
  | 0, _ =>
    go_enter Tryz.func49, Tryz.ntmps49
    go_wp2
    go_ret2
    exact ⟨rfl, rfl⟩
  | 1, _ | 2, _ | 3, _ | 4, _ =>
    go_enter Tryz.func49, Tryz.ntmps49
    go_wp2
    go_rounds 6
    go_ret2
    exact ⟨rfl, rfl⟩
end Go.Proofs.YtfgpmdikkncckaaGreatDoor
