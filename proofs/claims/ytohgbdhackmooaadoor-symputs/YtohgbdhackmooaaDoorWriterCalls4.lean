/-
  What New and Done of package writer make: a writer of its own; the packet in memory of its own. Nothing that was there is turned.
-/
import Derived.Test.YtohgbdhackmooaaDoorWriterCalls3
import Derived.Lib.QuietBelow
namespace Go.Proofs.YtohgbdhackmooaaDoor
set_option linter.unusedVariables false
open Go.ChangeShapes Go.WideShapes Go.ChangeAt Go.RowKit

theorem new_bad (w : World) (z : Int) (h : ¬ (4 ≤ z ∧ z ≤ 1275)) :
    Calls Tryd.prog 21 #[.int .i64 z] w fun e w' => e = .returned (.tuple #[.pointer none, .int .i64 2]) ∧ w' = w := by
  by_cases h1 : z < 4
  · go_enter Tryd.func21, Tryd.ntmps21
    go_wp2
    go_ret2
    exact ⟨rfl, rfl⟩
  · have h2 : 1275 < z := by omega
    clear h
    go_enter Tryd.func21, Tryd.ntmps21
    go_wp2
    go_ret2
    exact ⟨rfl, rfl⟩

/-- A list of so many noughts of a byte. -/
def zeros : Nat → List Value → Bool
  | 0, [] => true
  | n + 1, .int .u8 x :: r => decide (x = 0) && zeros n r
  | _, _ => false
theorem zeros_at : ∀ (n : Nat) (l : List Value), zeros n l = true → l.length = n ∧ ∀ i, i < n → l[i]? = some (.int .u8 0)
  | 0, [], _ => ⟨rfl, fun i hi => by omega⟩
  | 0, _ :: _, h => by simp [zeros] at h
  | n + 1, [], h => by simp [zeros] at h
  | n + 1, v :: r, h => by
    unfold zeros at h
    split at h
    · rename_i h1 h2; cases h1
    · rename_i n' x r' h1 h2
      obtain rfl : n = n' := by omega
      injection h2 with ha hb
      subst ha hb
      simp only [Bool.and_eq_true, decide_eq_true_eq] at h
      obtain ⟨rfl, h⟩ := h
      obtain ⟨h3, h4⟩ := zeros_at n r h
      refine ⟨by simp [h3], fun i hi => ?_⟩
      cases i with
      | zero => rfl
      | succ i => exact h4 i (by omega)
    · cases h
/-- A writer's cells, as Go lays them: noughts. -/
def wzeroB : Value → Bool
  | .agg cs => match cs.toList with
    | .int .i64 a :: .int .u32 b :: .int .u32 c :: .int .i64 d :: .int .i64 e :: r => decide (a = 0 ∧ b = 0 ∧ c = 0 ∧ d = 0 ∧ e = 0) && zeros 1275 r
    | _ => false
  | _ => false
theorem wzero_at {v : Value} (h : wzeroB v = true) : ∃ (Z : Array Value) (r : List Value), v = .agg Z ∧ Z.toList = .int .i64 0 :: .int .u32 0 :: .int .u32 0 :: .int .i64 0 :: .int .i64 0 :: r ∧ zeros 1275 r = true := by
  unfold wzeroB at h
  split at h
  · rename_i cs
    split at h
    · rename_i a b c d e r hl
      simp only [Bool.and_eq_true, decide_eq_true_eq] at h
      obtain ⟨⟨rfl, rfl, rfl, rfl, rfl⟩, hr⟩ := h
      exact ⟨cs, r, rfl, hl, hr⟩
    · cases h
  · cases h
theorem wzero_info : ((Tryd.prog.info? 82).bind (fun i => i.zero)).map wzeroB = some true := by kernel_rfl
theorem wzero_run : ∃ (Z : Array Value) (r : List Value), (∀ w, Sem.run Tryd.prog (zeroValue 82) w = .ok (.agg Z) w) ∧ Z.toList = .int .i64 0 :: .int .u32 0 :: .int .u32 0 :: .int .i64 0 :: .int .i64 0 :: r ∧ zeros 1275 r = true := by
  have h := wzero_info
  cases hi : Tryd.prog.info? 82 with
  | none => rw [hi] at h; cases h
  | some i =>
    rw [hi] at h
    cases hz : i.zero with
    | none => simp [hz] at h
    | some v =>
      simp only [Option.bind_some, hz, Option.map_some, Option.some.injEq] at h
      obtain ⟨Z, r, rfl, h1, h2⟩ := wzero_at h
      refine ⟨Z, r, fun w => ?_, h1, h2⟩
      simp [zeroValue, typeInfo, hi, hz]

set_option maxRecDepth 20000 in
theorem new_any (w : World) (z : Nat) (h0 : 4 ≤ z) (h1 : z ≤ 1275) :
    Calls Tryd.prog 21 #[.int .i64 z] w fun e w' => e = .returned (.tuple #[.pointer (some ⟨w.heap.size, 0, none⟩), .int .i64 0]) ∧ WrAt w' w.heap.size z Mo.new ∧ Below w.heap.size w w' := by
  have z0 : (4 : Int) ≤ z := by omega
  have z1 : (z : Int) ≤ 1275 := by omega
  clear h0 h1
  obtain ⟨Z, rr, u1, hZ, hr⟩ := wzero_run
  have u2 : ¬ (Z.size < 2) := by rw [← Array.length_toList, hZ]; simp
  have u3 : ¬ (Z = #[]) := by rintro rfl; simp at hZ
  have HZ : Hid _ := hZ
  have HR : Hid _ := hr
  clear hZ hr
  go_enter Tryd.func21, Tryd.ntmps21
  go_wp2
  go_ret2
  have hT : ((Z.setIfInBounds 0 (.int .i64 z)).setIfInBounds 1 (.int .u32 16777216)).toList = .int .i64 z :: .int .u32 16777216 :: .int .u32 0 :: .int .i64 0 :: .int .i64 0 :: rr := by
    rw [Array.toList_setIfInBounds, Array.toList_setIfInBounds, HZ.out]; rfl
  generalize (Z.setIfInBounds 0 (.int .i64 (z : Int))).setIfInBounds 1 (.int .u32 16777216) = C at *
  obtain ⟨hl, hr⟩ := zeros_at _ _ HR.out
  have hb := heap_alloc_new w (.cells C 82)
  have hc : ∀ j, (w.alloc (.cells C 82)).cell? ⟨w.heap.size, j, none⟩ = C.toList[j]? := fun j => by
    rw [cell_of_row _ _ j _ _ _ hb, Array.getElem?_toList]
  rw [hT] at hc
  refine ⟨rfl, ⟨0, fun _ => 0, inv_new z, hc 0, hc 1, hc 2, hc 3, hc 4, fun i hi => ?_, fun o => frozen_of_row _ _ o _ _ hb⟩, (Below.refl _ _).alloc (Nat.le_refl _) _⟩
  rw [hc (5 + i), show 5 + i = i + 1 + 1 + 1 + 1 + 1 by omega]
  exact hr i hi

end Go.Proofs.YtohgbdhackmooaaDoor
