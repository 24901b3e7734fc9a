/-
  What Compare of packages cmp and slices answers at two arrays of five, what Add of a log does, and what Most of a log answers whatever the order of the map. Nothing that was there is turned but the log's map.
-/
import Derived.Test.YtkilngogdbjmbaaDoorLogMath
import Derived.Deep.QuietTactic
import Derived.BigQuiet
import Derived.WalkSpells
import Derived.RegionTactic
import Derived.Deep.RegionHeld3
namespace Go.Proofs.YtkilngogdbjmbaaDoor
set_option linter.unusedVariables false
set_option linter.unusedSimpArgs false
set_option maxRecDepth 20000
open Go.ChangeShapes Go.WideShapes Go.ChangeAt Go.RowKit

theorem nan_any (x : Int) (w : World) : Calls Tryd.prog 64 #[.int .i64 x] w fun e w' => e = .returned (.bool false) ∧ w' = w := by
  go_enter Tryd.func64, Tryd.ntmps64
  go_wp2
  go_returns
  exact ⟨by simp, rfl⟩
def cmpI (x y : Int) : Int := if x < y then -1 else if y < x then 1 else 0
theorem cmp_any (x y : Int) (w : World) : Calls Tryd.prog 53 #[.int .i64 x, .int .i64 y] w fun e w' => e = .returned (.int .i64 (cmpI x y)) ∧ w' = w := by
  by_cases h1 : x < y
  · rw [show cmpI x y = -1 from if_pos h1]
    go_enter Tryd.func53, Tryd.ntmps53
    go_wp2_with (go_at_call 64; refine (nan_any _ _).mono ?_; rintro e w1 ⟨rfl, hw⟩; obtain rfl := hw.symm; clear hw)
    go_returns
    exact ⟨rfl, rfl⟩
  · by_cases h2 : y < x
    · rw [show cmpI x y = 1 by unfold cmpI; rw [if_neg h1, if_pos h2]]
      go_enter Tryd.func53, Tryd.ntmps53
      go_wp2_with (go_at_call 64; refine (nan_any _ _).mono ?_; rintro e w1 ⟨rfl, hw⟩; obtain rfl := hw.symm; clear hw)
      go_returns
      exact ⟨rfl, rfl⟩
    · rw [show cmpI x y = 0 by unfold cmpI; rw [if_neg h1, if_neg h2]]
      go_enter Tryd.func53, Tryd.ntmps53
      go_wp2_with (go_at_call 64; refine (nan_any _ _).mono ?_; rintro e w1 ⟨rfl, hw⟩; obtain rfl := hw.symm; clear hw)
      go_returns
      exact ⟨rfl, rfl⟩

def cmp5 (f g : Nat → Int) : Int := if gt5 f g = true then 1 else if gt5 g f = true then -1 else 0
theorem cmp5_pos (f g : Nat → Int) : decide (0 < cmp5 f g) = gt5 f g := by
  unfold cmp5
  split
  · rename_i h; rw [h]; rfl
  · rename_i h
    have : gt5 f g = false := by simpa using h
    rw [this]
    split <;> rfl
theorem gt5_less {f g : Nat → Int} {k : Nat} (h : ∀ j, j < k → f j = g j) (hk : k < 5) (hl : f k < g k) : cmp5 f g = -1 := by
  have h1 := gt5_at h hk (by omega)
  have h2 := gt5_at (fun j hj => (h j hj).symm) hk (show g k ≠ f k by omega)
  rw [decide_eq_false (by omega)] at h1
  rw [decide_eq_true hl] at h2
  unfold cmp5
  rw [h1, h2]; rfl
theorem gt5_more {f g : Nat → Int} {k : Nat} (h : ∀ j, j < k → f j = g j) (hk : k < 5) (hl : g k < f k) : cmp5 f g = 1 := by
  have h1 := gt5_at h hk (by omega)
  rw [decide_eq_true hl] at h1
  unfold cmp5
  rw [h1]; rfl
theorem gt5_none {f g : Nat → Int} (h : ∀ j, j < 5 → f j = g j) : cmp5 f g = 0 := by
  unfold cmp5
  rw [gt5_same h, gt5_same (fun j hj => (h j hj).symm)]; rfl

set_option maxHeartbeats 1000000 in
theorem scmp_any (w : World) (b1 b2 : Nat) (f g : Nat → Int) (H1 : Hid (Rw w b1 f)) (H2 : Hid (Rw w b2 g)) :
    Calls Tryd.prog 34 #[.slice (some ⟨b1, 0, none⟩) 5 5, .slice (some ⟨b2, 0, none⟩) 5 5] w fun e w' => e = .returned (.int .i64 (cmp5 f g)) ∧ w' = w := by
  go_enter Tryd.func34, Tryd.ntmps34
  go_wp2
  go_loopw [11] (fun i wr => ∃ k : Nat, k ≤ 5 ∧ i = .int .i64 k ∧ wr = w ∧ Hid (∀ j, j < k → f j = g j)) (fun i _ => 5 - (intOf i).toNat)
  case atStart => exact ⟨0, by omega, rfl, rfl, fun j hj => by omega⟩
  case round =>
    obtain ⟨k, hk, rfl, rfl, HE⟩ := hrel
    by_cases hlt : k < 5
    · have hlt' : (k : Int) < 5 := by omega
      have hk0 : (0 : Int) ≤ (k : Int) := by omega
      have c1 := H1.out.cell hlt
      have c2 := H2.out.cell hlt
      by_cases he : f k = g k
      · have HN : Hid (∀ j, j < k + 1 → f j = g j) := fun j hj => by
          by_cases x : j = k
          · rw [x]; exact he
          · exact HE.out j (by omega)
        have HC : Hid (cmpI (f k) (g k) = 0) := by show _ = _; unfold cmpI; rw [if_neg (by omega), if_neg (by omega)]
        clear he
        go_wp2_with (go_at_call 53; refine (cmp_any _ _ _).mono ?_; rw [HC.out]; rintro e w1 ⟨rfl, hw⟩; obtain rfl := hw.symm; clear hw)
        go_roundw
        case rel => exact ⟨k + 1, by omega, by go_num, by first | rfl | trivial, HN⟩
        case measure => simp [intOf]; omega
      · by_cases hx : f k < g k
        · have HC : Hid (cmpI (f k) (g k) = -1) := if_pos hx
          have HD : Hid (cmp5 f g = -1) := gt5_less HE.out hlt hx
          clear he hx
          go_wp2_with (go_at_call 53; refine (cmp_any _ _ _).mono ?_; rw [HC.out]; rintro e w1 ⟨rfl, hw⟩; obtain rfl := hw.symm; clear hw)
          go_returns
          exact ⟨by rw [HD.out]; rfl, rfl⟩
        · have HC : Hid (cmpI (f k) (g k) = 1) := by show _ = _; unfold cmpI; rw [if_neg hx, if_pos (by omega)]
          have HD : Hid (cmp5 f g = 1) := gt5_more HE.out hlt (by omega)
          clear he hx
          go_wp2_with (go_at_call 53; refine (cmp_any _ _ _).mono ?_; rw [HC.out]; rintro e w1 ⟨rfl, hw⟩; obtain rfl := hw.symm; clear hw)
          go_returns
          exact ⟨by rw [HD.out]; rfl, rfl⟩
    · obtain rfl : k = 5 := by omega
      have HS : Hid (cmp5 f g = 0) := gt5_none HE.out
      go_wp2
      go_returns
      exact ⟨by rw [HS.out]; rfl, rfl⟩
end Go.Proofs.YtkilngogdbjmbaaDoor
