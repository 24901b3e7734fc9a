/-
  What PutStep of package sym does with a writer: the step's symbol is put, or it is refused. The table of package sym lies in memory as the row lists it. Nothing that was there has turned but the writer's own block.
-/
import Derived.Test.YtohgbdhackmooaaDoorSymPut
import Derived.Test.YtohgbdhackmooaaDoorIntsAt
namespace Go.Proofs.YtohgbdhackmooaaDoor
set_option linter.unusedVariables false
open Go.ChangeShapes Go.WideShapes Go.ChangeAt Go.RowKit

def wdT : List Int := [20, 9, 9, 5, 5, 3, 3, 2, 2, 1, 1, 1, 1, 1, 1]
theorem wd_is : ∀ i : Fin 15, wdT.getD i 0 = stW i := by decide
/-- The table of package sym lies where the program has it. -/
def Wd (w : World) : Prop := IntsAt w (some ⟨0, 0, none⟩) 15 .i64 (fun i => wdT.getD i 0)
theorem Wd.cell {w : World} (h : Wd w) {i : Nat} (hi : i < 15) : w.cell? ⟨0, i, none⟩ = some (.int .i64 (stW i)) := by
  obtain ⟨b, off, h1, h2⟩ := h i hi
  cases h1
  rw [Nat.zero_add] at h2
  rw [h2]
  exact congrArg (fun z => some (Value.int .i64 z)) (wd_is ⟨i, hi⟩)
theorem Wd.pos {w : World} (h : Wd w) : 0 < w.heap.size := block_lt_of_cell (h.cell (i := 0) (by decide))
theorem Wd.kept {w w' : World} {row : Option Nat} (h : Wd w) (hg : w.grownBy w' row) (hne : some 0 ≠ row) : Wd w' := by
  intro i hi
  obtain ⟨b, off, h1, h2⟩ := h i hi
  refine ⟨b, off, h1, ?_⟩
  cases h1
  rw [World.cell?_of_block (a := ⟨0, 0 + i, none⟩) (hg.block 0 h.pos hne)]
  exact h2
theorem Wd.below {w w' : World} (h : Wd w) (hb : Below w.heap.size w w') : Wd w' := IntsAt.below h hb
theorem stW_bd : ∀ i : Fin 15, 1 ≤ stW i ∧ stW i ≤ 20 := by decide
theorem stF_bd : ∀ i : Fin 16, 0 ≤ stF i ∧ stF i ≤ 64 := by decide
theorem stI_zig {v : Int} (h1 : -7 ≤ v) (h2 : v ≤ 7) : zigF (-v) = (stI v : Int) := by
  unfold zigF stI
  split <;> split <;> omega

theorem putstep_bad (w : World) (b : Nat) (v : Int) (h : ¬ (-7 ≤ v ∧ v ≤ 7)) :
    Calls Tryd.prog 23 #[.pointer (some ⟨b, 0, none⟩), .int .i64 v] w fun e w' => e = .returned (.int .i64 1) ∧ w' = w := by
  by_cases h1 : v < -7
  · go_enter Tryd.func23, Tryd.ntmps23
    go_wp2
    go_ret
    exact ⟨rfl, rfl⟩
  · have h2 : 7 < v := by omega
    have h3 : decide (v < -7) = false := by simp; omega
    go_enter Tryd.func23, Tryd.ntmps23
    go_wp2
    go_ret
    exact ⟨rfl, rfl⟩

set_option maxRecDepth 20000 in
theorem putstep_wr (w : World) (b z : Nat) (m : Mo) (v : Int) (hz : z ≤ 1275) (hn : m.nD ≤ 600000) (hk : m.nR ≤ 600000) (v0 : -7 ≤ v) (v1 : v ≤ 7) (hg : Hid m.Good) (hd : Hid (Wd w)) (hw : Hid (WrAt w b z m)) :
    Calls Tryd.prog 23 #[.pointer (some ⟨b, 0, none⟩), .int .i64 v] w fun e w' => e = .returned (.int .i64 0) ∧ WrAt w' b z (m.step v) ∧ w.grownBy w' (some b) := by
  have hI := stI_le v0 v1
  have hZ := stI_zig v0 v1
  have HM : Hid (May (stF (stI v)) (stF (stI v) + stW (stI v)) 64) := stI_may v0 v1
  have HE : Hid (m.step v = m.put (stF (stI v)) (stF (stI v) + stW (stI v)) 64) := rfl
  obtain ⟨k, hk'⟩ : ∃ k, stI v = k := ⟨_, rfl⟩
  rw [hk'] at hI hZ HM HE
  have hI' : (k : Int) < 15 := by omega
  have f0 : ¬ v < -7 := by omega
  have f1 : decide (7 < v) = false := by simp; omega
  have e0 : IntKind.i64.wrap (-v) = -v := wrap_i64 (by omega) (by omega)
  have e1 : IntKind.i64.wrap k = k := wrap_i64 (by omega) (by omega)
  clear hk'
  go_enter Tryd.func23, Tryd.ntmps23
  go_wp2_with (go_at_call 44; refine (zig_any (-v) _ (by omega) (by omega)).mono ?_; rw [hZ]; rintro e w1 ⟨rfl, rfl⟩)
  go_loopw [6, 19] (fun fv iv wr => ∃ j : Nat, j ≤ k ∧ fv = .int .i64 (stF j) ∧ iv = .int .i64 j ∧ wr = w1) (fun _ iv _ => k - (intOf iv).toNat)
  case atStart => exact ⟨0, by omega, rfl, rfl, rfl⟩
  case round =>
    obtain ⟨j, hj, rfl, rfl, rfl⟩ := hrel
    by_cases hlt : j < k
    · have hlt' : (j : Int) < k := by omega
      have hj' : (j : Int) < 15 := by omega
      have c := hd.out.cell (i := j) (by omega)
      have hb := stW_bd ⟨j, by omega⟩
      have hf := stF_bd ⟨j, by omega⟩
      have HN : Hid (stF (j + 1) = stF j + stW j) := rfl
      simp only at hb hf
      generalize stW j = sw at *
      generalize stF j = sf at *
      go_wp2
      go_roundw
      case rel => exact ⟨j + 1, by omega, by rw [HN.out], by go_num, trivial⟩
      case measure => simp [intOf]; omega
    · obtain rfl : j = k := by omega
      have c := hd.out.cell (i := j) (by omega)
      have hb := stW_bd ⟨j, by omega⟩
      have hf := stF_bd ⟨j, by omega⟩
      simp only at hb hf
      generalize stW j = sw at *
      generalize stF j = sf at *
      clear hlt
      go_wp2_with (go_at_call 84; refine (put_wr _ b z m sf (sf + sw) 64 hz hn hk hg HM hw).mono ?_; rintro e w2 ⟨rfl, HW2, HB2⟩; replace HW2 : Hid (WrAt w2 b z (m.put sf (sf + sw) 64)) := HW2; replace HB2 : Hid _ := HB2)
      go_ret
      exact ⟨rfl, by rw [HE.out]; exact HW2.out, HB2.out⟩

end Go.Proofs.YtohgbdhackmooaaDoor
