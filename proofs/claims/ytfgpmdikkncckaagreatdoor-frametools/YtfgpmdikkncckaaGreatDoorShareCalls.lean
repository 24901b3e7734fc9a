/-
  What place and price of package share do: where a pulse stands, and what pulses cost, by a share's sheet. Nothing that was there is turned.
-/
import Derived.Test.YtfgpmdikkncckaaGreatDoorShareMath
import Derived.Test.YtfgpmdikkncckaaGreatDoorAllocShare
import Derived.Test.YtfgpmdikkncckaaGreatDoorCostNew
namespace Go.Proofs.YtfgpmdikkncckaaGreatDoor
set_option linter.unusedVariables false
open Go.ChangeShapes Go.WideShapes Go.ChangeAt Go.RowKit

/-- A share lies at block b: it holds the sheet at block q. -/
structure SrAt (w : World) (b q : Nat) : Prop where
  ptr : w.cell? ⟨b, 0, none⟩ = some (.pointer (some ⟨q, 0, none⟩))
  sh : ShAt w q
section
variable {w w' : World} {b q : Nat}
theorem SrAt.lt (h : SrAt w b q) : b < w.heap.size := block_lt_of_cell h.ptr
theorem SrAt.below (h : SrAt w b q) (hb : Below w.heap.size w w') : SrAt w' b q :=
  ⟨by rw [World.cell?_of_block (a := ⟨b, 0, none⟩) (hb.block b h.lt)]; exact h.ptr, h.sh.below hb⟩
theorem SrAt.drewN (h : SrAt w b q) (d : Nat) : SrAt (w.drewN d) b q := ⟨h.ptr, h.sh.drewN d⟩
theorem SrAt.low (h : SrAt w b q) (hb : Below w.heap.size w w') : SrAt w' b q := h.below hb
end

theorem splace_any (w : World) (l i D : Int) (hl : 0 ≤ l ∧ l ≤ 4000) (hi : 0 ≤ i ∧ i < 5) (hD : Hid (5 * l + i = D)) : Calls Tryz.prog 174 #[.int .i64 l, .int .i64 i] w fun e w' => e = .returned (.int .i64 D) ∧ w' = w := by
  go_enter Tryz.func174, Tryz.ntmps174
  go_wp2
  go_returns
  exact ⟨ret_int (by rw [← hD.out]; omega), rfl⟩

/-- Where a function's mode and array lie, its share, the table of widths. -/
structure PX (w wr : World) (b q : Nat) (s c : Int) (f : Nat → Int) : Prop where
  md : Md wr w.heap.size s c
  row : Rw wr (w.heap.size + 1) f
  sr : SrAt wr b q
  tab : WTab wr
  low : Below w.heap.size w wr
section
variable {w wr w1 : World} {b q : Nat} {s c : Int} {f : Nat → Int}
theorem PX.below (h : PX w wr b q s c f) (hb : Below wr.heap.size wr w1) : PX w w1 b q s c f :=
  ⟨h.md.below hb, h.row.below hb, h.sr.below hb, h.tab.below hb, h.low.trans (hb.mono h.low.size)⟩
theorem PX.drewN (h : PX w wr b q s c f) (d : Nat) : PX w (wr.drewN d) b q s c f := ⟨h.md, h.row, h.sr.drewN d, h.tab, low_drewN h.low d⟩
theorem PX.start (hS : SrAt w b q) (hT : WTab w) : PX w ((w.alloc (.cells #[.int .i64 s, .int .i64 c] 29)).alloc (.cells (row5 f) 31)) b q s c f :=
  have hb : Below w.heap.size w ((w.alloc (.cells #[.int .i64 s, .int .i64 c] 29)).alloc (.cells (row5 f) 31)) := gN_below (gN_alloc (gN_alloc (gN_refl w) _) _)
  ⟨heap_one _ _ _, heap_two _ _ _, hS.below hb, hT.below hb, hb⟩
end

set_option maxHeartbeats 2000000 in
theorem sprice_any (w : World) (b q : Nat) (s c : Int) (f : Nat → Int) (B : Nat) (hBn : Hid (bandsF s c = B)) (h5 : B ≤ 5) (hc : B = 0 ∨ c = 1 ∨ c = 2) (hS : Hid (SrAt w b q)) (hT : Hid (WTab w)) :
    Calls Tryz.prog 171 #[.pointer (some ⟨b, 0, none⟩), (.agg #[.int .i64 (s), .int .i64 (c)]), .agg (row5 f)] w fun e w' => e = .returned (.int .i64 (aPr f B * c)) ∧ Below w.heap.size w w' := by
  have HPS : Hid (PX w _ b q s c f) := PX.start (s := s) (c := c) (f := f) hS.out hT.out
  go_enter Tryz.func171, Tryz.ntmps171
  go_wp2_with (go_at_call 21; refine (bands_any _ _ _).mono ?_; rw [hBn.out]; rintro e w1 ⟨rfl, hb1⟩; have HP1 : Hid (PX w w1 b q s c f) := HPS.out.below hb1; clear hb1)
  go_loopw [7, 11] (fun v i wr => ∃ j : Nat, j ≤ B ∧ i = .int .i64 j ∧ v = .int .i64 (aPr f j) ∧ Hid (PX w wr b q s c f)) (fun _ i _ => B - (intOf i).toNat)
  case atStart => exact ⟨0, by omega, rfl, rfl, HP1⟩
  case round =>
    clear HP1 HPS
    obtain ⟨j, hj, rfl, rfl, HP⟩ := hrel
    have c1 := HP.out.md.cs
    have c2 := HP.out.md.cc
    have hpb := pr_bd (k := f) j
    by_cases hlt : j < B
    · have hlt' : (j : Int) < (B : Int) := by omega
      have c3 := HP.out.row.cell (i := j) (by omega)
      have c4 := HP.out.sr.ptr
      have j0 : (0 : Int) ≤ (j : Int) := by omega
      have j5 : (j : Int) < 5 := by omega
      have HW : Hid (widthF s c j = widF j) := width_in hBn.out hlt
      have HA : Hid (aPr f (j + 1) = aPr f j + btI (widF j) (f j)) := rfl
      have hbb := btI_bd (widF j) (f j)
      generalize aPr f j = S0 at *
      obtain ⟨x, hx⟩ : ∃ x, btI (widF j) (f j) = x := ⟨_, rfl⟩
      have HX : Hid (btI (widF j) (f j) = x) := hx
      rw [hx] at hbb HA
      clear hx
      go_wp2
      go_region_held3 (fun w' => w'.cell? ⟨w.heap.size, 0, none⟩ = some (.int .i64 s) ∧ w'.cell? ⟨w.heap.size, 1, none⟩ = some (.int .i64 c) ∧ w'.cell? ⟨w.heap.size + 1, j, none⟩ = some (.int .i64 (f j)) ∧ w'.cell? ⟨b, 0, none⟩ = some (.pointer (some ⟨q, 0, none⟩))) (first | exact ⟨c1, c2, c3, c4⟩ | exact ⟨d1, d2, d3, d4⟩) ((first
        | (go_at_call 23; refine (width_any _ _ _ _ ((HP.out.drewN _).tab : WTab _)).mono ?_; rw [HW.out]; rintro e w2 ⟨rfl, hb2⟩; have HP2 : Hid (PX w w2 b q s c f) := (HP.out.drewN _).below hb2; have d1 := HP2.out.md.cs; have d2 := HP2.out.md.cc; have d3 := HP2.out.row.cell (i := j) (by omega); have d4 := HP2.out.sr.ptr; clear hb2)
        | (go_at_call 175; refine (sbits_any _ q _ _ (HP2.out.sr.sh : ShAt _ _)).mono ?_; rw [HX.out]; rintro e w3 ⟨rfl, hw⟩; obtain rfl := hw.symm; clear hw)))
      go_wp2
      go_roundw
      case rel => exact ⟨j + 1, by omega, by go_num, by show _ = Value.int _ (aPr f (j + 1)); rw [HA.out, IntWalk.i64_in _ (by omega)], HP2⟩
      case measure => simp [intOf]; omega
    · obtain rfl : j = B := by omega
      rcases hc with rfl | rfl | rfl
      · go_wp2
        go_returns
        exact ⟨ret_int (by rw [aPr]; simp [wrap64]), HP.out.low⟩
      · go_wp2
        go_returns
        exact ⟨ret_int (by omega), HP.out.low⟩
      · go_wp2
        go_returns
        exact ⟨ret_int (by omega), HP.out.low⟩
end Go.Proofs.YtfgpmdikkncckaaGreatDoor
