/-
  What Slope and mayHave of package alloc do, and Slope of the document's own answer: a band's slope is answered, and whether a band may have so many pulses. Nothing that was there is turned but the book's own block and its map.
-/
import Derived.Test.YtfgpmdikkncckaaGreatDoorAllocRow
namespace Go.Proofs.YtfgpmdikkncckaaGreatDoor
set_option linter.unusedVariables false
open Go.ChangeShapes Go.WideShapes Go.ChangeAt Go.RowKit

theorem slope_eq (wd : Int) : (64 : Int).tdiv wd = 64 / wd := Int.tdiv_eq_ediv_of_nonneg (by omega)
theorem wrap_two {a b : Int} (h : 4 ≤ a ∧ a ≤ 32) (h' : 0 ≤ b ∧ b ≤ 32) : wrap64 (a + wrap64 b) = a + b := by unfold wrap64; omega
theorem below_al {w w1 : World} {o : Obj} (h : Below (w.alloc o).heap.size (w.alloc o) w1) : Below w.heap.size w w1 :=
  (gN_below (gN_alloc (gN_refl w) o)).trans (h.mono (gN_alloc (gN_refl w) o).size)

set_option maxHeartbeats 1000000 in
theorem slope_at (w : World) (s c t : Int) (i : Nat) (hT : Hid (WTab w)) (wd S H : Int) (hi : i < 5) (hw : 2 ≤ wd ∧ wd ≤ 16) (HW : Hid (widthF s c i = wd)) (hdq : 4 ≤ (64 : Int).tdiv wd ∧ (64 : Int).tdiv wd ≤ 32)
    (hm : 0 ≤ (8 - H) * (i : Int) ∧ (8 - H) * (i : Int) ≤ 32) (HS : Hid (S = (64 : Int).tdiv wd + (8 - H) * i)) (hH : (t < 0 ∧ H = 0) ∨ (7 < t ∧ H = 7) ∨ (0 ≤ t ∧ t ≤ 7 ∧ H = t)) :
    Calls Tryz.prog 156 #[(.agg #[.int .i64 (s), .int .i64 (c)]), .int .i64 t, .int .i64 i] w fun e w' => e = .returned (.int .i64 S) ∧ Below w.heap.size w w' := by
  rcases hH with ⟨h1, rfl⟩ | ⟨h1, rfl⟩ | ⟨h1, h2, rfl⟩
  · go_enter Tryz.func156, Tryz.ntmps156
    go_wp2_with (go_at_call 23; refine (width_any _ _ _ _ (hT.out.below (by go_grown))).mono ?_; rw [HW.out]; rintro e w1 ⟨rfl, hb1⟩; have HB1 : Hid (Below w.heap.size w w1) := below_al hb1; clear hb1)
    go_returns
    exact ⟨ret_int (by rw [HS.out]; omega), HB1.out⟩
  · go_enter Tryz.func156, Tryz.ntmps156
    go_wp2_with (go_at_call 23; refine (width_any _ _ _ _ (hT.out.below (by go_grown))).mono ?_; rw [HW.out]; rintro e w1 ⟨rfl, hb1⟩; have HB1 : Hid (Below w.heap.size w w1) := below_al hb1; clear hb1)
    go_returns
    exact ⟨ret_int (by rw [HS.out]; omega), HB1.out⟩
  · go_enter Tryz.func156, Tryz.ntmps156
    go_wp2_with (go_at_call 23; refine (width_any _ _ _ _ (hT.out.below (by go_grown))).mono ?_; rw [HW.out]; rintro e w1 ⟨rfl, hb1⟩; have HB1 : Hid (Below w.heap.size w w1) := below_al hb1; clear hb1)
    all_goals go_returns
    · exact ⟨ret_int (by rw [HS.out]; exact wrap_two hdq hm), HB1.out⟩
    · obtain rfl : H = 0 := by omega
      exact ⟨ret_int (by rw [HS.out]; exact wrap_two hdq hm), HB1.out⟩
theorem dq_bd {i : Nat} (hi : i < 5) : 4 ≤ (64 : Int).tdiv (widF i) ∧ (64 : Int).tdiv (widF i) ≤ 32 := by
  match i, hi with
  | 0, _ | 1, _ | 2, _ | 3, _ | 4, _ => exact ⟨by decide, by decide⟩
theorem hel_mul (t : Int) {i : Nat} (hi : i < 5) : 0 ≤ (8 - aHel t) * (i : Int) ∧ (8 - aHel t) * (i : Int) ≤ 32 := by
  have := hel_bd t
  match i, hi with
  | 0, _ | 1, _ | 2, _ | 3, _ | 4, _ => constructor <;> omega
theorem hel_cases (t : Int) : (t < 0 ∧ aHel t = 0) ∨ (7 < t ∧ aHel t = 7) ∨ (0 ≤ t ∧ t ≤ 7 ∧ aHel t = t) := by unfold aHel; omega
theorem slope_any (w : World) (s c t b : Int) (hT : Hid (WTab w)) :
    Calls Tryz.prog 156 #[(.agg #[.int .i64 (s), .int .i64 (c)]), .int .i64 t, .int .i64 b] w fun e w' => e = .returned (.int .i64 (aSlI s c t b)) ∧ Below w.heap.size w w' := by
  by_cases hb : hasB s c b
  · have hbb := has_bd hb
    obtain ⟨i, rfl⟩ : ∃ i : Nat, b = i := ⟨b.toNat, by omega⟩
    have hi : i < 5 := by omega
    have e0 : aSlI s c t i = aSl t i := by unfold aSlI; rw [if_pos hb]; rfl
    have hw := wid_bd hi
    rw [e0]
    exact slope_at w s c t i hT (widF i) _ (aHel t) hi hw (by show _ = _; unfold widthF; rw [if_pos hb]; rfl) (dq_bd hi) (hel_mul t hi) (by show _ = _; unfold aSl; rw [slope_eq]) (hel_cases t)
  · have e0 : aSlI s c t b = 0 := if_neg hb
    have HW : Hid (widthF s c b = 0) := by show _ = _; unfold widthF; rw [if_neg hb]
    rw [e0]
    go_enter Tryz.func156, Tryz.ntmps156
    go_wp2_with (go_at_call 23; refine (width_any _ _ _ _ (hT.out.below (by go_grown))).mono ?_; rw [HW.out]; rintro e w1 ⟨rfl, hb1⟩; have HB1 : Hid (Below w.heap.size w w1) := below_al hb1; clear hb1)
    go_returns
    exact ⟨rfl, HB1.out⟩

/-- The document's own. -/
theorem rslope_at (w : World) (t : Int) (i : Nat) (wd S H : Int) (hi : i < 5) (HW : Hid (widF i = wd)) (hw : 2 ≤ wd ∧ wd ≤ 16) (hdq : 4 ≤ (64 : Int).tdiv wd ∧ (64 : Int).tdiv wd ≤ 32)
    (hm : 0 ≤ (8 - H) * (i : Int) ∧ (8 - H) * (i : Int) ≤ 32) (HS : Hid (S = (64 : Int).tdiv wd + (8 - H) * i)) (hH : (t < 0 ∧ H = 0) ∨ (7 < t ∧ H = 7) ∨ (0 ≤ t ∧ t ≤ 7 ∧ H = t)) :
    Calls Tryz.prog 79 #[.int .i64 t, .int .i64 i] w fun e w' => e = .returned (.int .i64 S) ∧ w' = w := by
  rcases hH with ⟨h1, rfl⟩ | ⟨h1, rfl⟩ | ⟨h1, h2, rfl⟩
  all_goals
    go_enter Tryz.func79, Tryz.ntmps79
    go_wp2_with (go_at_call 49; refine (rband_any i _ hi).mono ?_; rw [HW.out]; rintro e w1 ⟨rfl, hw⟩; obtain rfl := hw.symm; clear hw)
    go_returns
    exact ⟨ret_int (by first | (rw [HS.out]; done) | (rw [HS.out]; exact wrap_two hdq hm) | (rw [HS.out]; omega)), rfl⟩
theorem rslope_any (w : World) (t : Int) (i : Nat) (hi : i < 5) : Calls Tryz.prog 79 #[.int .i64 t, .int .i64 i] w fun e w' => e = .returned (.int .i64 (aSl t i)) ∧ w' = w :=
  rslope_at w t i (widF i) _ (aHel t) hi rfl (wid_bd hi) (dq_bd hi) (hel_mul t hi) (by show _ = _; unfold aSl; rw [slope_eq]) (hel_cases t)
end Go.Proofs.YtfgpmdikkncckaaGreatDoor
