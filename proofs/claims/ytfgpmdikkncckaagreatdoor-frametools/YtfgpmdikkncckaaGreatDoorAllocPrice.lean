/-
  What price of package alloc does: what pulses cost is answered. Nothing that was there is turned but the book's own block and its map.
-/
import Derived.Test.YtfgpmdikkncckaaGreatDoorAllocCalls
namespace Go.Proofs.YtfgpmdikkncckaaGreatDoor
set_option linter.unusedVariables false
open Go.ChangeShapes Go.WideShapes Go.ChangeAt Go.RowKit

/-- Where a function's mode and array lie, and its book. -/
structure PS (w wr : World) (b : Nat) (mo : Option Nat) (s c : Int) (f : Nat → Int) : Prop where
  mode : wr.heap[w.heap.size]? = some (.cells #[.int .i64 s, .int .i64 c] 29 (0, 0))
  row : wr.heap[w.heap.size + 1]? = some (.cells (row5 f) 31 (0, 0))
  book : ∃ mo', Bk wr b mo' ∧ Gb w wr b mo mo'
  tab : WTab wr
theorem heap_two (w : World) (o1 o2 : Obj) : ((w.alloc o1).alloc o2).heap[w.heap.size + 1]? = some o2 := by
  have := heap_alloc_new (w.alloc o1) o2
  rwa [show (w.alloc o1).heap.size = w.heap.size + 1 from Array.size_push ..] at this
theorem heap_one (w : World) (o1 o2 : Obj) : ((w.alloc o1).alloc o2).heap[w.heap.size]? = some o1 := by
  rw [heap_alloc_old _ _ (by simp)]
  exact heap_alloc_new w o1
section
variable {w wr wr' : World} {b : Nat} {mo : Option Nat} {s c : Int} {f : Nat → Int}
theorem PS.start (hB : Bk w b mo) (hT : WTab w) : PS w ((w.alloc (.cells #[.int .i64 s, .int .i64 c] 29)).alloc (.cells (row5 f) 31)) b mo s c f :=
  ⟨heap_one _ _ _, heap_two _ _ _, ⟨mo, (hB.alloc _).alloc _, ((Gb.refl _ _ _).alloc _).alloc _⟩, hT.grown (gN_alloc (gN_alloc (gN_refl w) _) _)⟩
theorem PS.keep (h : PS w wr b mo s c f) (hg : wr.grownBy wr' none) : PS w wr' b mo s c f := by
  obtain ⟨mo', hB, hG⟩ := h.book
  have h1 := (Array.getElem?_eq_some_iff.1 h.mode).1
  have h2 := (Array.getElem?_eq_some_iff.1 h.row).1
  exact ⟨(hg.block _ h1 (by simp)).trans h.mode, (hg.block _ h2 (by simp)).trans h.row, ⟨mo', hB.keep hg, hG.trans (Gb.grown hg _ _)⟩, h.tab.grown hg⟩
theorem PS.below (h : PS w wr b mo s c f) (hb : Below wr.heap.size wr wr') : PS w wr' b mo s c f := h.keep ⟨hb.os, hb.tape, hb.output, hb.size, fun i hi _ => hb.block i hi⟩
theorem PS.gb {mo1 mo2 : Option Nat} (h : PS w wr b mo s c f) (hw : w.heap.size ≠ b) (hw1 : w.heap.size + 1 ≠ b) (hB : Bk wr b mo1) (hG0 : Gb w wr b mo mo1) (hB' : Bk wr' b mo2) (hG : Gb wr wr' b mo1 mo2) : PS w wr' b mo s c f := by
  have hB2 := hB
  obtain ⟨S, _, hBk⟩ := hB
  exact ⟨hG.cells hBk h.mode hw, hG.cells hBk h.row hw1, ⟨mo2, hB', hG0.trans hG⟩, h.tab.bk hB2 hG⟩
theorem PS.drewN (h : PS w wr b mo s c f) (d : Nat) : PS w (wr.drewN d) b mo s c f := by
  obtain ⟨mo', hB, hG⟩ := h.book
  exact ⟨h.mode, h.row, ⟨mo', hB.drewN d, ⟨hG.os, hG.tape, hG.output, hG.size, hG.block, hG.map⟩⟩, h.tab⟩
theorem PS.cs (h : PS w wr b mo s c f) : wr.cell? ⟨w.heap.size, 0, none⟩ = some (.int .i64 s) := cell_of_row _ _ 0 _ _ _ h.mode
theorem PS.cc (h : PS w wr b mo s c f) : wr.cell? ⟨w.heap.size, 1, none⟩ = some (.int .i64 c) := cell_of_row _ _ 1 _ _ _ h.mode
theorem PS.cf (h : PS w wr b mo s c f) {i : Nat} (hi : i < 5) : wr.cell? ⟨w.heap.size + 1, i, none⟩ = some (.int .i64 (f i)) := by
  rw [cell_of_row _ _ i _ _ _ h.row]; exact row5_at f hi
/-- A call on the book. -/
theorem PS.call {w1 : World} (h : PS w wr b mo s c f) (hl : b < w.heap.size) (hc : ∀ mo1, Bk wr b mo1 → ∃ mo2, Bk w1 b mo2 ∧ Gb wr w1 b mo1 mo2) : PS w w1 b mo s c f := by
  obtain ⟨mo1, hB, hG⟩ := h.book
  obtain ⟨mo2, hB2, hG2⟩ := hc mo1 hB
  exact h.gb (by omega) (by omega) hB hG hB2 hG2
end

set_option maxHeartbeats 2000000 in
theorem price_any (w : World) (b : Nat) (mo : Option Nat) (s c : Int) (f : Nat → Int) (B : Nat) (hr : right s c) (hBn : Hid (bandsF s c = B)) (h5 : B ≤ 5) (hB : Hid (Bk w b mo)) (hT : Hid (WTab w)) :
    Calls Tryz.prog 150 #[.pointer (some ⟨b, 0, none⟩), (.agg #[.int .i64 (s), .int .i64 (c)]), .agg (row5 f)] w fun e w' => e = .returned (.int .i64 (aPr f B * c)) ∧ ∃ mo', Bk w' b mo' ∧ Gb w w' b mo mo' := by
  have hc : c = 1 ∨ c = 2 := by unfold right at hr; omega
  have hbl := hB.out.lt
  have HPS : Hid (PS w _ b mo s c f) := PS.start (s := s) (c := c) (f := f) hB.out hT.out
  go_enter Tryz.func150, Tryz.ntmps150
  go_wp2_with (go_at_call 21; refine (bands_any _ _ _).mono ?_; rw [hBn.out]; rintro e w1 ⟨rfl, hb1⟩; have HP1 : Hid (PS w w1 b mo s c f) := HPS.out.below hb1; clear hb1)
  go_loopw [7, 11] (fun v i wr => ∃ j : Nat, j ≤ B ∧ i = .int .i64 j ∧ v = .int .i64 (aPr f j) ∧ Hid (PS w wr b mo s c f)) (fun _ i _ => B - (intOf i).toNat)
  case atStart => exact ⟨0, by omega, rfl, rfl, HP1⟩
  case round =>
    clear HP1 HPS
    obtain ⟨j, hj, rfl, rfl, HP⟩ := hrel
    have c1 := HP.out.cs
    have c2 := HP.out.cc
    have hpb := pr_bd (k := f) j
    by_cases hlt : j < B
    · have hlt' : (j : Int) < (B : Int) := by omega
      have c3 := HP.out.cf (i := j) (by omega)
      have j0 : (0 : Int) ≤ (j : Int) := by omega
      have j5 : (j : Int) < 5 := by omega
      have HW : Hid (widthF s c j = widF j) := width_in hBn.out hlt
      have HA : Hid (aPr f (j + 1) = aPr f j + btI (widF j) (f j)) := rfl
      have hbb := btI_bd (widF j) (f j)
      obtain ⟨mo1, hB1, hG1⟩ := HP.out.book
      have HB1 : Hid (Bk wr b mo1) := hB1
      have HG1 : Hid (Gb w wr b mo mo1) := hG1
      clear hB1 hG1
      generalize aPr f j = S0 at *
      obtain ⟨x, hx⟩ : ∃ x, btI (widF j) (f j) = x := ⟨_, rfl⟩
      have HX : Hid (btI (widF j) (f j) = x) := hx
      rw [hx] at hbb HA
      clear hx
      go_wp2
      go_region_held3 (fun w' => w'.cell? ⟨w.heap.size, 0, none⟩ = some (.int .i64 s) ∧ w'.cell? ⟨w.heap.size, 1, none⟩ = some (.int .i64 c) ∧ w'.cell? ⟨w.heap.size + 1, j, none⟩ = some (.int .i64 (f j))) (first | exact ⟨c1, c2, c3⟩ | exact ⟨d1, d2, d3⟩ | exact ⟨e1, e2, e3⟩) ((first
        | (go_at_call 23; refine (width_any _ _ _ _ ((HP.out.drewN _).tab : WTab _)).mono ?_; rw [HW.out]; rintro e w2 ⟨rfl, hb2⟩; have HP2 : Hid (PS w w2 b mo s c f) := (HP.out.drewN _).below hb2; have d1 := HP2.out.cs; have d2 := HP2.out.cc; have d3 := HP2.out.cf (i := j) (by omega); clear hb2)
        | (go_at_call 157; obtain ⟨mo2, hB2, hG2⟩ := HP2.out.book; have HB2 : Hid (Bk w2 b mo2) := hB2; refine (bits_any _ b mo2 _ _ HB2).mono ?_; rw [HX.out]; rintro e w3 ⟨rfl, mo3, hB3, hG3⟩; have HP3 : Hid (PS w w3 b mo s c f) := HP2.out.gb (by omega) (by omega) HB2.out hG2 hB3 hG3; have e1 := HP3.out.cs; have e2 := HP3.out.cc; have e3 := HP3.out.cf (i := j) (by omega); clear hB2 hG2 HB2 hB3 hG3)))
      go_wp2
      go_roundw
      case rel => exact ⟨j + 1, by omega, by go_num, by show _ = Value.int _ (aPr f (j + 1)); rw [HA.out, IntWalk.i64_in _ (by omega)], HP3⟩
      case measure => simp [intOf]; omega
    · obtain rfl : j = B := by omega
      rcases hc with rfl | rfl
      · go_wp2
        go_returns
        exact ⟨ret_int (by omega), HP.out.book⟩
      · go_wp2
        go_returns
        exact ⟨ret_int (by omega), HP.out.book⟩
end Go.Proofs.YtfgpmdikkncckaaGreatDoor
