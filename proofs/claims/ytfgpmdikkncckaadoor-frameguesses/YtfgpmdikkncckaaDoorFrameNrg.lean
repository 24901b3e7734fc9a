/-
  What Energies of an ask does: each number modulo 32. Nothing that was there is turned.
-/
import Derived.Test.YtfgpmdikkncckaaDoorFrameRow
import Derived.Test.YtfgpmdikkncckaaDoorFrameOpen
namespace Go.Proofs.YtfgpmdikkncckaaDoor
set_option linter.unusedVariables false
set_option maxRecDepth 100000
open Go.ChangeShapes Go.WideShapes Go.ChangeAt Go.RowKit

structure EX (w wr : World) (A : Array Value) (f : Nat → Int) : Prop where
  ask : wr.heap[w.heap.size]? = some (.cells A 26 (0, 0))
  res : wr.heap[w.heap.size + 1]? = some (.cells (row10 (fun _ => 0)) 30 (0, 0))
  out : wr.heap[w.heap.size + 2]? = some (.cells (row10 f) 30 (0, 0))
  low : Below w.heap.size w wr
section
variable {w wr : World} {A : Array Value} {f : Nat → Int}
theorem EX.cell (h : EX w wr A f) {j : Nat} (hj : j < 10) : wr.cell? ⟨w.heap.size + 2, j, none⟩ = some (.int .i64 (f j)) := by
  rw [cell_of_row _ _ _ _ _ _ h.out]; exact row10_at f hj
theorem EX.set (h : EX w wr A f) {j : Nat} (hj : j < 10) (y : Int) : EX w (wr.setCell ⟨w.heap.size + 2, j, none⟩ (.int .i64 y)) A (fun i => if i = j then y else f i) :=
  ⟨(heap_setCell_other wr ⟨w.heap.size + 2, j, none⟩ _ _ (by show w.heap.size ≠ w.heap.size + 2; omega)).trans h.ask, (heap_setCell_other wr ⟨w.heap.size + 2, j, none⟩ _ _ (by show w.heap.size + 1 ≠ w.heap.size + 2; omega)).trans h.res,
    by rw [← row10_set f hj]; exact heap_setCell_same _ _ _ _ _ _ h.out, h.low.setCell (p := ⟨w.heap.size + 2, j, none⟩) (by show w.heap.size ≤ w.heap.size + 2; omega) _⟩
theorem EX.drew (h : EX w wr A f) : EX w wr.drew A f := ⟨h.ask, h.res, h.out, h.low.os, h.low.tape, h.low.output, h.low.size, h.low.block⟩
end

set_option maxHeartbeats 2000000 in
theorem energies_any (w : World) (ao : Option Addr) (n cap : Nat) (s c : Int) (P : Nat → Int) (hP : Hid (∀ j, j < 10 → (Lit.int .u8 (P j)).wf = true)) :
    Calls Tryd.prog 6 #[.agg (askC ao n cap s c P)] w fun e w' => e = .returned (.agg (row10 (fun j => P j % 32))) ∧ Below w.heap.size w w' := by
  have h3 := heap_threeF w (.cells (askC ao n cap s c P) 26) (.cells (row10 (fun _ => 0)) 30) (.cells (row10 (fun _ => 0)) 30)
  have HE0 : Hid (EX w (((w.alloc (.cells (askC ao n cap s c P) 26)).alloc (.cells (row10 (fun _ => 0)) 30)).alloc (.cells (row10 (fun _ => 0)) 30)) (askC ao n cap s c P) (fun _ => 0)) :=
    ⟨h3.1, h3.2.1, h3.2.2, gN_below (gN_alloc (gN_alloc (gN_alloc (gN_refl w) _) _) _)⟩
  clear h3
  go_enter Tryd.func6, Tryd.ntmps6
  go_wp2
  replace HE0 : Hid (EX w _ (askC ao n cap s c P) (fun _ => 0)) := HE0
  go_loopw [6] (fun i wr => ∃ (k : Nat) (f : Nat → Int), k ≤ 2 ∧ i = .int .i64 k ∧ Hid (EX w wr (askC ao n cap s c P) f) ∧ Hid (∀ j, j < k * 5 → f j = P j % 32)) (fun i _ => 2 - (intOf i).toNat)
  case atStart => exact ⟨0, fun _ => 0, by omega, rfl, HE0, fun j hj => by omega⟩
  case round =>
    clear HE0
    obtain ⟨k, f, hk, rfl, HE, HF⟩ := hrel
    by_cases hlt : k < 2
    · have hlt' : (k : Int) < 2 := by omega
      have k0 : (0 : Int) ≤ (k : Int) := by omega
      obtain ⟨wo, hwo⟩ : ∃ x, x = wr := ⟨_, rfl⟩
      go_wp2
      go_loopw [9] (fun i wr => ∃ (b : Nat) (f : Nat → Int), b ≤ 5 ∧ i = .int .i64 b ∧ Hid (EX w wr (askC ao n cap s c P) f) ∧ Hid (∀ j, j < k * 5 + b → f j = P j % 32)) (fun i _ => 5 - (intOf i).toNat)
      case atStart => exact ⟨0, f, by omega, rfl, HE, HF⟩
      case round =>
        clear HE HF
        obtain ⟨b, f, hb, rfl, HE, HF⟩ := hrel
        by_cases hlb : b < 5
        · have hlb' : (b : Int) < 5 := by omega
          have b0 : (0 : Int) ≤ (b : Int) := by omega
          have hj : k * 5 + b < 10 := by omega
          have hx := bounds_u8 (hP.out (k * 5 + b) hj)
          have c1 : wr.cell? ⟨w.heap.size, 3 + k * 5 + b, none⟩ = some (.int .u8 (P (k * 5 + b))) := by
            rw [cell_of_row _ _ _ _ _ _ HE.out.ask, show 3 + k * 5 + b = 3 + (k * 5 + b) by omega]; exact askC_p _ _ _ _ _ _ hj
          have c2 := HE.out.cell hj
          have f2 := fun o => frozen_of_row wr (w.heap.size + 2) o _ _ HE.out.out
          obtain ⟨x, hxe⟩ : ∃ x, P (k * 5 + b) = x := ⟨_, rfl⟩
          have HXE : Hid (P (k * 5 + b) = x) := hxe
          rw [hxe] at hx c1
          clear hxe
          obtain ⟨x0, x1⟩ := hx
          have HS : Hid (EX w (wr.setCell ⟨w.heap.size + 2, k * 5 + b, none⟩ (.int .i64 (x % 32))).drew (askC ao n cap s c P) (fun i => if i = k * 5 + b then x % 32 else f i)) := (HE.out.set hj (x % 32)).drew
          have HFS : Hid (∀ j, j < k * 5 + (b + 1) → (fun i => if i = k * 5 + b then x % 32 else f i) j = P j % 32) := by
            intro j hj2
            show (if j = k * 5 + b then x % 32 else f j) = _
            by_cases e : j = k * 5 + b
            · subst e; rw [if_pos rfl, HXE.out]
            · rw [if_neg e]; exact HF.out j (by omega)
          go_wp2
          go_region
          go_wp2
          go_roundw
          case rel => exact ⟨b + 1, _, by omega, by go_num, HS, HFS⟩
          case measure => simp [intOf]; omega
        · obtain rfl : b = 5 := by omega
          go_wp2
          go_roundw
          case rel => exact ⟨k + 1, f, by omega, by go_num, HE, fun j hj => HF.out j (by omega)⟩
          case measure => simp [intOf]; omega
    · obtain rfl : k = 2 := by omega
      have hst := store10 wr (w.heap.size + 1) (fun _ => 0) f HE.out.res
      go_wp2_with (refine wl_load10 rfl _ rfl (w.heap.size + 2) f rfl HE.out.out ?_)
      have hr : row10 f = row10 (fun j => P j % 32) := row10_same (fun j hj => HF.out j (by omega))
      refine bodyPost_ret (results_cell_row rfl _ _ (w.heap.size + 1) 30 (row10 f) (0, 0) _ rfl (setRowF_heap HE.out.res) Tryd.underlying30 rfl (by rw [row10_size]; exact t25_info)) rfl ⟨by rw [hr], ?_⟩
      exact below_setRow HE.out.low (by omega) _
end Go.Proofs.YtfgpmdikkncckaaDoor
