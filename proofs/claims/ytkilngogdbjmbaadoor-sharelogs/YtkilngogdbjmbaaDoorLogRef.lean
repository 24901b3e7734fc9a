/-
  What the document's own answers for logs (Many, More and Most of spinetref15) answer at a list that lies somewhere. Nothing that was there is turned.
-/
import Derived.Test.YtkilngogdbjmbaaDoorLogMost
import Derived.Test.YtkilngogdbjmbaaDoorMore
import Derived.Lib.QuietBelow
namespace Go.Proofs.YtkilngogdbjmbaaDoor
set_option linter.unusedVariables false
set_option linter.unusedSimpArgs false
set_option maxRecDepth 20000
open Go.ChangeShapes Go.WideShapes Go.ChangeAt Go.RowKit
open Go.Sort (grow)
attribute [local go_sem] cell?_gr frozen?_gr setCell_gr size_gr drew_gr drewN_gr redrawn_drew redrawn_drewN redrawn_redrawn gr_gr

/-- Where Many has what it counts; the list. -/
structure NX (w wr : World) (ao : Option Addr) (n : Nat) (F : Nat → Nat → Int) (g : Nat → Int) : Prop where
  box : Rw wr w.heap.size g
  l : L5At wr ao n F
  low : Below w.heap.size w wr
theorem NX.drewN {w wr : World} {ao : Option Addr} {n : Nat} {F : Nat → Nat → Int} {g : Nat → Int} (h : NX w wr ao n F g) (d : Nat) : NX w (wr.drewN d) ao n F g := ⟨h.box, h.l, low_drewN h.low d⟩
theorem eq5 (f g : Nat → Int) {v : Bool} (h : same5 f g = v) (w : World) : (binOp .eql 25 (.agg #[.int .i64 (f 0), .int .i64 (f 1), .int .i64 (f 2), .int .i64 (f 3), .int .i64 (f 4)]) (.agg #[.int .i64 (g 0), .int .i64 (g 1), .int .i64 (g 2), .int .i64 (g 3), .int .i64 (g 4)])).run Tryd.prog w = .ok (.bool v) w := by
  have := eql5 f g w
  rw [h] at this
  exact this

set_option maxHeartbeats 2000000 in
theorem many_any (w : World) (ao : Option Addr) (n cap : Nat) (F : Nat → Nat → Int) (g : Nat → Int) (hn : n ≤ 1000) (hL : Hid (L5At w ao n F)) :
    Calls Tryd.prog 15 #[.slice ao n cap, .agg (row5 g)] w fun e w' => e = .returned (.int .i64 (cnt5 F g n : Nat)) ∧ Below w.heap.size w w' := by
  have hb0 : Below w.heap.size w (w.alloc (.cells (row5 g) 25)) := gN_below (gN_alloc (gN_refl w) _)
  have HX0 : Hid (NX w (w.alloc (.cells (row5 g) 25)) ao n F g) := ⟨Rw.new w g, hL.out.below hb0, hb0⟩
  clear hb0
  go_enter Tryd.func15, Tryd.ntmps15
  go_wp2
  go_loopw [5, 6] (fun v i wr => ∃ k : Nat, k ≤ n ∧ i = .int .i64 k ∧ v = .int .i64 (cnt5 F g k : Nat) ∧ Hid (NX w wr ao n F g)) (fun _ i _ => n - (intOf i).toNat)
  case atStart => exact ⟨0, by omega, rfl, rfl, HX0⟩
  case round =>
    clear HX0
    obtain ⟨k, hk, rfl, rfl, HX⟩ := hrel
    by_cases hlt : k < n
    · have hlt' : (k : Int) < (n : Int) := by omega
      have hk0 : (0 : Int) ≤ (k : Int) := by omega
      obtain ⟨b, off, rfl, _⟩ := HX.out.l k hlt
      obtain ⟨x0, x1, x2, x3, x4⟩ := HX.out.l.cells hlt
      have r0 := HX.out.box.cell (i := 0) (by omega)
      have r1 := HX.out.box.cell (i := 1) (by omega)
      have r2 := HX.out.box.cell (i := 2) (by omega)
      have r3 := HX.out.box.cell (i := 3) (by omega)
      have r4 := HX.out.box.cell (i := 4) (by omega)
      have hcb := cnt5_le F g k
      have HN : Hid (cnt5 F g (k + 1) = cnt5 F g k + (if same5 (F k) g = true then 1 else 0)) := rfl
      generalize cnt5 F g k = d at *
      by_cases hs : same5 (F k) g = true
      · have he := eq5 (F k) g hs
        have HN2 : Hid (cnt5 F g (k + 1) = d + 1) := by show _ = _; rw [HN.out, if_pos hs]
        clear hs HN
        go_upto_region 5 with fail
        go_quiet (fail)
        go_wp2
        go_roundw
        case rel => exact ⟨k + 1, by omega, by go_num, by rw [HN2.out]; go_num, HX.out.drewN _⟩
        case measure => simp [intOf]; omega
      · have he := eq5 (F k) g (by simpa using hs : same5 (F k) g = false)
        have HN2 : Hid (cnt5 F g (k + 1) = d) := by show _ = _; rw [HN.out, if_neg hs]; rfl
        clear hs HN
        go_upto_region 5 with fail
        go_quiet (fail)
        go_wp2
        go_roundw
        case rel => exact ⟨k + 1, by omega, by go_num, by rw [HN2.out], HX.out.drewN _⟩
        case measure => simp [intOf]; omega
    · obtain rfl : k = n := by omega
      go_wp2
      go_returns
      exact ⟨rfl, HX.out.low⟩

/-- Where More has its two. -/
structure GX (w wr : World) (f g : Nat → Int) : Prop where
  f : Rw wr w.heap.size f
  g : Rw wr (w.heap.size + 1) g
  low : Below w.heap.size w wr
theorem GX.drewN {w wr : World} {f g : Nat → Int} (h : GX w wr f g) (d : Nat) : GX w (wr.drewN d) f g := ⟨h.f, h.g, low_drewN h.low d⟩
set_option maxHeartbeats 2000000 in
theorem more_any (w : World) (f g : Nat → Int) : Calls Tryd.prog 35 #[.agg (row5 f), .agg (row5 g)] w fun e w' => e = .returned (.bool (gt5 f g)) ∧ Below w.heap.size w w' := by
  have HX0 : Hid (GX w ((w.alloc (.cells (row5 f) 25)).alloc (.cells (row5 g) 25)) f g) := ⟨heap_one _ _ _, heap_two _ _ _, gN_below (gN_alloc (gN_alloc (gN_refl w) _) _)⟩
  go_enter Tryd.func35, Tryd.ntmps35
  go_wp2
  go_loopw [5] (fun i wr => ∃ k : Nat, k ≤ 5 ∧ i = .int .i64 k ∧ Hid (∀ j, j < k → f j = g j) ∧ Hid (GX w wr f g)) (fun i _ => 5 - (intOf i).toNat)
  case atStart => exact ⟨0, by omega, rfl, fun j hj => by omega, HX0⟩
  case round =>
    clear HX0
    obtain ⟨k, hk, rfl, HE, HX⟩ := hrel
    by_cases hlt : k < 5
    · have hlt' : (k : Int) < 5 := by omega
      have hk0 : (0 : Int) ≤ (k : Int) := by omega
      have c1 := HX.out.f.cell hlt
      have c2 := HX.out.g.cell hlt
      by_cases he : f k = g k
      · have HN : Hid (∀ j, j < k + 1 → f j = g j) := fun j hj => by
          by_cases x : j = k
          · rw [x]; exact he
          · exact HE.out j (by omega)
        have he' : (f k == g k) = true := by simpa using he
        have he2 : (f k != g k) = false := by simpa using he
        clear he
        go_upto_region 4 with fail
        go_quiet (fail)
        go_wp2
        go_roundw
        case rel => exact ⟨k + 1, by omega, by go_num, HN, HX.out.drewN _⟩
        case measure => simp [intOf]; omega
      · have HG : Hid (gt5 f g = decide (g k < f k)) := gt5_at HE.out hlt he
        have he' : (f k == g k) = false := by simpa using he
        have he2 : (f k != g k) = true := by simpa using he
        clear he
        go_upto_region 4 with fail
        go_quiet (fail)
        go_upto_region 5 with fail
        go_quiet (fail)
        go_wp2
        go_returns
        exact ⟨ret_bool (by rw [HG.out]), low_drewN (low_drewN HX.out.low _) _⟩
    · obtain rfl : k = 5 := by omega
      have HS : Hid (gt5 f g = false) := gt5_same HE.out
      go_wp2
      go_returns
      exact ⟨ret_bool (by rw [HS.out]), HX.out.low⟩
end Go.Proofs.YtkilngogdbjmbaaDoor
