/-
  What greatest and next of package alloc do: the greatest numbers of pulses, the band that is next. Nothing that was there is turned but the book's own block and its map.
-/
import Derived.Test.YtfgpmdikkncckaaGreatDoorAllocPrice
namespace Go.Proofs.YtfgpmdikkncckaaGreatDoor
set_option linter.unusedVariables false
open Go.ChangeShapes Go.WideShapes Go.ChangeAt Go.RowKit

/-- An array of five numbers, and a mode, lie at a block; what keeps them. -/
def Rw (w : World) (g : Nat) (f : Nat → Int) : Prop := w.heap[g]? = some (.cells (row5 f) 31 (0, 0))
def Md (w : World) (g : Nat) (s c : Int) : Prop := w.heap[g]? = some (.cells #[.int .i64 s, .int .i64 c] 29 (0, 0))
def Kp (w w' : World) (b : Nat) : Prop := ∀ g c t z, g ≠ b → w.heap[g]? = some (.cells c t z) → w'.heap[g]? = some (.cells c t z)
/-- The book, and the table of widths. -/
structure BT (w wr : World) (b : Nat) (mo : Option Nat) : Prop where
  book : ∃ mo', Bk wr b mo' ∧ Gb w wr b mo mo'
  tab : WTab wr
section
variable {w w' wr w1 : World} {b g : Nat} {mo mo' : Option Nat} {s c : Int} {f : Nat → Int}
theorem Kp.gb (hB : Bk w b mo) (hG : Gb w w' b mo mo') : Kp w w' b := by
  obtain ⟨S, _, hBk⟩ := hB
  exact fun g c t z hg h => hG.cells hBk h hg
theorem Kp.below (h : Below w.heap.size w w') : Kp w w' b := fun g c t z hg hh => (h.block g (Array.getElem?_eq_some_iff.1 hh).1).trans hh
theorem Kp.trans (h : Kp w wr b) (h' : Kp wr w' b) : Kp w w' b := fun g c t z hg hh => h' g c t z hg (h g c t z hg hh)
theorem Rw.kp (h : Rw w g f) (hk : Kp w w' b) (hg : g ≠ b) : Rw w' g f := hk _ _ _ _ hg h
theorem Md.kp (h : Md w g s c) (hk : Kp w w' b) (hg : g ≠ b) : Md w' g s c := hk _ _ _ _ hg h
theorem Rw.below (h : Rw w g f) (hb : Below w.heap.size w w') : Rw w' g f := (hb.block g (Array.getElem?_eq_some_iff.1 h).1).trans h
theorem Md.below (h : Md w g s c) (hb : Below w.heap.size w w') : Md w' g s c := (hb.block g (Array.getElem?_eq_some_iff.1 h).1).trans h
theorem Rw.alloc (h : Rw w g f) (o : Obj) : Rw (w.alloc o) g f := (heap_alloc_old _ _ (Array.getElem?_eq_some_iff.1 h).1).trans h
theorem Md.alloc (h : Md w g s c) (o : Obj) : Md (w.alloc o) g s c := (heap_alloc_old _ _ (Array.getElem?_eq_some_iff.1 h).1).trans h
theorem Rw.new (w : World) (f : Nat → Int) : Rw (w.alloc (.cells (row5 f) 31)) w.heap.size f := heap_alloc_new w _
theorem Md.new (w : World) (s c : Int) : Md (w.alloc (.cells #[.int .i64 s, .int .i64 c] 29)) w.heap.size s c := heap_alloc_new w _
theorem Rw.cell (h : Rw w g f) {i : Nat} (hi : i < 5) : w.cell? ⟨g, i, none⟩ = some (.int .i64 (f i)) := by
  rw [cell_of_row _ _ i _ _ _ h]; exact row5_at f hi
theorem Rw.fz (h : Rw w g f) (i : Nat) : w.frozen? ⟨g, i, none⟩ = false := frozen_of_row _ _ i _ _ h
theorem Rw.lt (h : Rw w g f) : g < w.heap.size := (Array.getElem?_eq_some_iff.1 h).1
theorem Md.cs (h : Md w g s c) : w.cell? ⟨g, 0, none⟩ = some (.int .i64 s) := cell_of_row _ _ 0 _ _ _ h
theorem Md.cc (h : Md w g s c) : w.cell? ⟨g, 1, none⟩ = some (.int .i64 c) := cell_of_row _ _ 1 _ _ _ h
theorem Md.lt (h : Md w g s c) : g < w.heap.size := (Array.getElem?_eq_some_iff.1 h).1
theorem Rw.set (h : Rw w g f) {i : Nat} (hi : i < 5) (v : Int) : Rw (w.setCell ⟨g, i, none⟩ (.int .i64 v)) g (fun j => if j = i then v else f j) := by
  show _ = _
  rw [← row5_set f hi]
  exact heap_setCell_same w g i _ _ _ h
theorem Rw.set_other (h : Rw w g f) {g' : Nat} (hg : g ≠ g') (i : Nat) (v : Value) : Rw (w.setCell ⟨g', i, none⟩ v) g f := (heap_setCell_other w ⟨g', i, none⟩ g v (by simpa using hg)).trans h
theorem Md.set_other (h : Md w g s c) {g' : Nat} (hg : g ≠ g') (i : Nat) (v : Value) : Md (w.setCell ⟨g', i, none⟩ v) g s c := (heap_setCell_other w ⟨g', i, none⟩ g v (by simpa using hg)).trans h
theorem BT.below (h : BT w wr b mo) (hb : Below wr.heap.size wr w1) : BT w w1 b mo := by
  have hg : wr.grownBy w1 none := ⟨hb.os, hb.tape, hb.output, hb.size, fun i hi _ => hb.block i hi⟩
  obtain ⟨mo', hB, hG⟩ := h.book
  exact ⟨⟨mo', hB.keep hg, hG.trans (Gb.grown hg _ _)⟩, h.tab.grown hg⟩
theorem BT.alloc (h : BT w wr b mo) (o : Obj) : BT w (wr.alloc o) b mo := h.below (gN_below (gN_alloc (gN_refl wr) o))
theorem BT.call {mo1 mo2 : Option Nat} (hB : Bk wr b mo1) (hG0 : Gb w wr b mo mo1) (hT : WTab wr) (hB' : Bk w1 b mo2) (hG : Gb wr w1 b mo1 mo2) : BT w w1 b mo :=
  ⟨⟨mo2, hB', hG0.trans hG⟩, hT.bk hB hG⟩
theorem gb_set (h : Gb w wr b mo mo') (hg : w.heap.size ≤ g) (i : Nat) (v : Value) : Gb w (wr.setCell ⟨g, i, none⟩ v) b mo mo' :=
  ⟨h.os, h.tape, h.output, by have : (wr.setCell ⟨g, i, none⟩ v).heap.size = wr.heap.size := by simp [World.setCell]
                              rw [this]; exact h.size, fun k hk hb hm => (Below.heap_setCell wr ⟨g, i, none⟩ v k (by show k ≠ g; omega)).trans (h.block k hk hb hm), h.map⟩
theorem BT.set (h : BT w wr b mo) (hR : Rw wr g f) (hg : w.heap.size ≤ g) (hb : g ≠ b) (hT : WTab w) (i : Nat) (v : Value) : BT w (wr.setCell ⟨g, i, none⟩ v) b mo := by
  obtain ⟨mo', ⟨S, hO, hB⟩, hG⟩ := h.book
  refine ⟨⟨mo', ⟨S, hO, hB.set hR hb i v⟩, gb_set hG hg i v⟩, fun j hj => ⟨0, 0, rfl, ?_⟩⟩
  have hs := hT.size
  rw [Nat.zero_add, World.cell?_of_block (Below.heap_setCell wr ⟨g, i, none⟩ v 0 (by show 0 ≠ g; omega))]
  exact h.tab.wid hj
theorem setRow_same {C : Array Value} {k : Nat} (hk : k ≠ g) : (wr.setRow g C).heap[k]? = wr.heap[k]? := by
  simp only [World.setRow, Array.getElem?_modify]
  rw [if_neg (fun e => hk e.symm)]
theorem setRow_grown (wr : World) (g : Nat) (C : Array Value) : wr.grownBy (wr.setRow g C) (some g) :=
  ⟨rfl, rfl, rfl, by simp [World.setRow], fun i _ hn => setRow_same (fun e => hn (by rw [e]))⟩
theorem Rw.setRow (h : Rw w g f) (f' : Nat → Int) : Rw (w.setRow g (row5 f')) g f' := setRow_heap _ _ _ _ _ _ h
theorem Rw.setRow_other (h : Rw w g f) {g' : Nat} (hg : g ≠ g') (C : Array Value) : Rw (w.setRow g' C) g f := (setRow_same hg).trans h
theorem Md.setRow_other (h : Md w g s c) {g' : Nat} (hg : g ≠ g') (C : Array Value) : Md (w.setRow g' C) g s c := (setRow_same hg).trans h
theorem BT.setRow (h : BT w wr b mo) (hR : Rw wr g f) (hg : w.heap.size ≤ g) (hb : g ≠ b) (hT : WTab w) (C : Array Value) : BT w (wr.setRow g C) b mo := by
  obtain ⟨mo', ⟨S, hO, hB⟩, hG⟩ := h.book
  have hx := hB.apart hR
  have hs := hT.size
  refine ⟨⟨mo', ⟨S, hO, hB.kept (setRow_grown wr g C) (by intro e; cases e; exact hb rfl) (fun m e e' => hx (by rw [e, e']))⟩, ⟨hG.os, hG.tape, hG.output, by simp only [World.setRow, Array.size_modify]; exact hG.size, fun k hk h1 h2 => (setRow_same (by omega)).trans (hG.block k hk h1 h2), hG.map⟩⟩, fun j hj => ⟨0, 0, rfl, ?_⟩⟩
  rw [Nat.zero_add, World.cell?_of_block (setRow_same (by show 0 ≠ g; omega))]
  exact h.tab.wid hj
theorem Md.drewN (h : Md w g s c) (d : Nat) : Md (w.drewN d) g s c := h
theorem Rw.drewN (h : Rw w g f) (d : Nat) : Rw (w.drewN d) g f := h
theorem WTab.drewN (h : WTab w) (d : Nat) : WTab (w.drewN d) := h
theorem low_drewN {B : Nat} (h : Below B w w') (d : Nat) : Below B w (w'.drewN d) := ⟨h.os, h.tape, h.output, h.size, h.block⟩
/-- An array of five that is the function's result. -/
theorem ret5 (h : Rw w g f) : (w.setRow g (row5 f)).heap[g]? = some (.cells (row5 f) 31 (0, 0)) := h.setRow f
end
theorem row5_zero : row5 (fun _ => 0) = #[.int .i64 0, .int .i64 0, .int .i64 0, .int .i64 0, .int .i64 0] := rfl
def capF (B : Nat) (n : Nat) : Nat → Int := fun i => if i < n then capB i else 0
theorem capF_next (B n : Nat) : (fun j => if j = n then capB n else capF B n j) = capF B (n + 1) := by
  funext j
  unfold capF
  by_cases e : j = n
  · subst e; rw [if_pos rfl, if_pos (by omega)]
  · rw [if_neg e]
    by_cases h : j < n
    · rw [if_pos h, if_pos (by omega)]
    · rw [if_neg h, if_neg (by omega)]

set_option maxHeartbeats 2000000 in
theorem greatest_any (w : World) (b : Nat) (mo : Option Nat) (s c : Int) (B : Nat) (hBn : Hid (bandsF s c = B)) (h5 : B ≤ 5) (hB : Hid (Bk w b mo)) (hT : Hid (WTab w)) :
    Calls Tryz.prog 148 #[.pointer (some ⟨b, 0, none⟩), (.agg #[.int .i64 (s), .int .i64 (c)])] w fun e w' => e = .returned (.agg (row5 (capF B B))) ∧ ∃ mo', Bk w' b mo' ∧ Gb w w' b mo mo' := by
  have hbl := hB.out.lt
  obtain ⟨o1, ho1⟩ : ∃ o : Obj, o = .cells #[.int .i64 s, .int .i64 c] 29 := ⟨_, rfl⟩
  obtain ⟨o2, ho2⟩ : ∃ o : Obj, o = .cells #[.int .i64 0, .int .i64 0, .int .i64 0, .int .i64 0, .int .i64 0] 31 := ⟨_, rfl⟩
  have HM0 : Hid (Md (((w.alloc o1).alloc o2).alloc o2) w.heap.size s c) := by rw [ho1]; exact ((Md.new w s c).alloc _).alloc _
  have HR0 : Hid (Rw (((w.alloc o1).alloc o2).alloc o2) (w.heap.size + 1) (fun _ => 0)) := by
    have := Rw.alloc (Rw.new (w.alloc o1) (fun _ => 0)) o2
    rw [show (w.alloc o1).heap.size = w.heap.size + 1 from Array.size_push .., row5_zero, ← ho2] at this
    exact this
  have HC0 : Hid (Rw (((w.alloc o1).alloc o2).alloc o2) (w.heap.size + 2) (fun _ => 0)) := by
    have := Rw.new ((w.alloc o1).alloc o2) (fun _ => 0)
    rw [show ((w.alloc o1).alloc o2).heap.size = w.heap.size + 2 by simp, row5_zero, ← ho2] at this
    exact this
  have HB0 : Hid (BT w (((w.alloc o1).alloc o2).alloc o2) b mo) := BT.alloc (BT.alloc (BT.alloc ⟨⟨mo, hB.out, Gb.refl _ _ _⟩, hT.out⟩ _) _) _
  subst ho1 ho2
  go_enter Tryz.func148, Tryz.ntmps148
  go_wp2_with (go_at_call 21; refine (bands_any _ _ _).mono ?_; rw [hBn.out]; rintro e w1 ⟨rfl, hb1⟩; have HM1 : Hid (Md w1 w.heap.size s c) := HM0.out.below hb1; have HR1 : Hid (Rw w1 (w.heap.size + 1) (fun _ => 0)) := HR0.out.below hb1; have HC1 : Hid (Rw w1 (w.heap.size + 2) (fun _ => 0)) := HC0.out.below hb1; have HB1 : Hid (BT w w1 b mo) := HB0.out.below hb1; clear hb1 HM0 HR0 HC0 HB0)
  go_loopw [9] (fun i wr => ∃ j : Nat, j ≤ B ∧ i = .int .i64 j ∧ Hid (Md wr w.heap.size s c) ∧ Hid (Rw wr (w.heap.size + 1) (fun _ => 0)) ∧ Hid (Rw wr (w.heap.size + 2) (capF B j)) ∧ Hid (BT w wr b mo)) (fun i _ => B - (intOf i).toNat)
  case atStart => exact ⟨0, by omega, rfl, HM1, HR1, HC1, HB1⟩
  case round =>
    clear HM1 HR1 HC1 HB1
    obtain ⟨j, hj, rfl, HM, HR, HC, HBT⟩ := hrel
    by_cases hlt : j < B
    · have hlt' : (j : Int) < (B : Int) := by omega
      have c1 := HM.out.cs
      have c2 := HM.out.cc
      have j0 : (0 : Int) ≤ (j : Int) := by omega
      have j5 : (j : Int) < 5 := by omega
      have HW : Hid (widthF s c j = widF j) := width_in hBn.out hlt
      have HCP : Hid (capI (widF j) = capB j) := rfl
      go_wp2_with fail
      refine (width_any _ _ _ _ (HBT.out.tab : WTab _)).mono ?_
      rw [HW.out]
      rintro e w2 ⟨rfl, hb2⟩
      obtain ⟨mo2, hB2, hG2⟩ := (HBT.out.below hb2).book
      have HB2 : Hid (Bk w2 b mo2) := hB2
      have HG2 : Hid (Gb w w2 b mo mo2) := hG2
      have HT2 : Hid (WTab w2) := (HBT.out.below hb2).tab
      have HM2 : Hid (Md w2 w.heap.size s c) := HM.out.below hb2
      have HR2 : Hid (Rw w2 (w.heap.size + 1) (fun _ => 0)) := HR.out.below hb2
      have HC2 : Hid (Rw w2 (w.heap.size + 2) (capF B j)) := HC.out.below hb2
      clear hb2 hB2 hG2 HM HR HC HBT c1 c2
      go_wp2_with fail
      refine (cap_any _ b mo2 _ HB2).mono ?_
      rw [HCP.out]
      rintro e w3 ⟨rfl, mo3, hB3, hG3⟩
      have hk : Kp w2 w3 b := Kp.gb HB2.out hG3
      have HM3 : Hid (Md w3 w.heap.size s c) := HM2.out.kp hk (by omega)
      have HR3 : Hid (Rw w3 (w.heap.size + 1) (fun _ => 0)) := HR2.out.kp hk (by omega)
      have HC3 : Hid (Rw w3 (w.heap.size + 2) (capF B j)) := HC2.out.kp hk (by omega)
      have HB3 : Hid (BT w w3 b mo) := BT.call HB2.out HG2.out HT2.out hB3 hG3
      clear hB3 hG3 hk HB2 HG2 HT2 HM2 HR2 HC2
      have c3 := HC3.out.cell (i := j) (by omega)
      have c4 := HC3.out.fz j
      have HM4 : Hid _ := HM3.out.set_other (g' := w.heap.size + 2) (by omega) j (.int .i64 (capB j))
      have HR4 : Hid _ := HR3.out.set_other (g' := w.heap.size + 2) (by omega) j (.int .i64 (capB j))
      have HC4 : Hid (Rw _ _ _) := HC3.out.set (i := j) (by omega) (capB j)
      rw [capF_next] at HC4
      have HB4 : Hid _ := HB3.out.set HC3.out (by omega) (by omega) hT.out j (.int .i64 (capB j))
      go_wp2
      go_roundw
      case rel => exact ⟨j + 1, by omega, by go_num, HM4, HR4, HC4, HB4⟩
      case measure => simp [intOf]; omega
    · obtain rfl : j = B := by omega
      have hst := store5 wr (w.heap.size + 1) (fun _ => 0) (capF j j) HR.out
      go_wp2_with (refine wl_load5 rfl _ rfl (w.heap.size + 2) (capF j j) rfl HC.out ?_)
      refine bodyPost_ret (results_cell_row rfl _ _ (w.heap.size + 1) 31 (row5 (capF j j)) (0, 0) _ rfl (HR.out.setRow _) t5_under rfl (by rw [row5_size]; exact t5_info)) rfl ⟨rfl, ?_⟩
      exact (HBT.out.setRow HR.out (by omega) (by omega) hT.out _).book

theorem nx_congr {t : Int} {cp cp' k : Nat → Int} : ∀ {n : Nat}, (∀ i, i < n → cp i = cp' i) → aNx t cp k n = aNx t cp' k n
  | 0, _ => rfl
  | n + 1, h => by rw [aNx, aNx, nx_congr (n := n) (fun i hi => h i (by omega)), h n (by omega)]
def nxI (o : Option Nat) : Int := match o with
  | none => 0
  | some j => j
def nxL (t : Int) (k : Nat → Int) (o : Option Nat) : Int := match o with
  | none => 0
  | some j => aLev t k j

set_option maxHeartbeats 2000000 in
theorem anext_any (w : World) (s c t : Int) (k cp : Nat → Int) (B : Nat) (hBn : Hid (bandsF s c = B)) (h5 : B ≤ 5) (hk : Hid (∀ i, i < 5 → 0 ≤ k i ∧ k i ≤ 32)) (hT : Hid (WTab w)) :
    Calls Tryz.prog 149 #[(.agg #[.int .i64 (s), .int .i64 (c)]), .int .i64 t, .agg (row5 k), .agg (row5 cp)] w fun e w' => e = .returned (.tuple #[.int .i64 (nxI (aNx t cp k B)), .bool (aNx t cp k B).isSome]) ∧ Below w.heap.size w w' := by
  obtain ⟨o1, ho1⟩ : ∃ o : Obj, o = .cells #[.int .i64 s, .int .i64 c] 29 := ⟨_, rfl⟩
  obtain ⟨o2, ho2⟩ : ∃ o : Obj, o = .cells (row5 k) 31 := ⟨_, rfl⟩
  obtain ⟨o3, ho3⟩ : ∃ o : Obj, o = .cells (row5 cp) 31 := ⟨_, rfl⟩
  have HM0 : Hid (Md (((w.alloc o1).alloc o2).alloc o3) w.heap.size s c) := by rw [ho1]; exact ((Md.new w s c).alloc _).alloc _
  have HR0 : Hid (Rw (((w.alloc o1).alloc o2).alloc o3) (w.heap.size + 1) k) := by
    have := Rw.alloc (Rw.new (w.alloc o1) k) o3
    rw [show (w.alloc o1).heap.size = w.heap.size + 1 from Array.size_push .., ← ho2] at this
    exact this
  have HC0 : Hid (Rw (((w.alloc o1).alloc o2).alloc o3) (w.heap.size + 2) cp) := by
    have := Rw.new ((w.alloc o1).alloc o2) cp
    rw [show ((w.alloc o1).alloc o2).heap.size = w.heap.size + 2 by simp, ← ho3] at this
    exact this
  have hg0 : w.grownBy (((w.alloc o1).alloc o2).alloc o3) none := gN_alloc (gN_alloc (gN_alloc (gN_refl w) _) _) _
  have HT0 : Hid (WTab (((w.alloc o1).alloc o2).alloc o3)) := hT.out.grown hg0
  have HB0 : Hid (Below w.heap.size w (((w.alloc o1).alloc o2).alloc o3)) := gN_below hg0
  clear hg0
  subst ho1 ho2 ho3
  go_enter Tryz.func149, Tryz.ntmps149
  go_wp2_with (go_at_call 21; refine (bands_any _ _ _).mono ?_; rw [hBn.out]; rintro e w1 ⟨rfl, hb1⟩; have HM1 : Hid (Md w1 w.heap.size s c) := HM0.out.below hb1; have HR1 : Hid (Rw w1 (w.heap.size + 1) k) := HR0.out.below hb1; have HC1 : Hid (Rw w1 (w.heap.size + 2) cp) := HC0.out.below hb1; have HT1 : Hid (WTab w1) := HT0.out.below hb1; have HB1 : Hid (Below w.heap.size w w1) := HB0.out.trans (hb1.mono HB0.out.size); clear hb1 HM0 HR0 HC0 HB0 HT0)
  go_loopw [10, 11, 12, 17] (fun a l fd i wr => ∃ j : Nat, j ≤ B ∧ i = .int .i64 j ∧ ((Hid (aNx t cp k j = none) ∧ a = .int .i64 0 ∧ l = .int .i64 0 ∧ fd = .bool false) ∨ ∃ i0 : Nat, i0 < j ∧ Hid (aNx t cp k j = some i0) ∧ a = .int .i64 i0 ∧ l = .int .i64 (aLev t k i0) ∧ fd = .bool true) ∧ Hid (Md wr w.heap.size s c) ∧ Hid (Rw wr (w.heap.size + 1) k) ∧ Hid (Rw wr (w.heap.size + 2) cp) ∧ Hid (WTab wr) ∧ Hid (Below w.heap.size w wr)) (fun _ _ _ i _ => B - (intOf i).toNat)
  case atStart => exact ⟨0, by omega, rfl, .inl ⟨rfl, rfl, rfl, rfl⟩, HM1, HR1, HC1, HT1, HB1⟩
  case round =>
    clear HM1 HR1 HC1 HT1 HB1
    obtain ⟨j, hj, rfl, hw, HM, HR, HC, HTB, HBB⟩ := hrel
    by_cases hlt : j < B
    · have hlt' : (j : Int) < (B : Int) := by omega
      have c1 := HM.out.cs
      have c2 := HM.out.cc
      have c3 := HR.out.cell (i := j) (by omega)
      have j0 : (0 : Int) ≤ (j : Int) := by omega
      have j5 : (j : Int) < 5 := by omega
      have HSL : Hid (aSlI s c t j = aSl t j) := by show _ = _; unfold aSlI; rw [if_pos (by unfold hasB; rw [hBn.out]; omega)]; rfl
      have hlv := lev_bd (t := t) (k := k) (i := j) (by omega) (hk.out j (by omega)).1 (hk.out j (by omega)).2
      have hkj := hk.out j (by omega)
      have HWR : Hid (IntKind.i64.wrap (IntKind.i64.wrap (k j + 1) * aSl t j) = aLev t k j) := by
        show _ = _
        rw [IntWalk.i64_in (k j + 1) (by omega)]
        exact IntWalk.i64_in _ (by unfold aLev at hlv; omega)
      by_cases hc : k j < cp j
      · rcases hw with ⟨HN, rfl, rfl, rfl⟩ | ⟨i0, hi0, HN, rfl, rfl, rfl⟩
        · have HE : Hid (aNx t cp k (j + 1) = some j) := by show _ = _; rw [aNx, HN.out]; exact if_pos hc
          go_wp2
          go_region_held3 (fun w' => w'.cell? ⟨w.heap.size, 0, none⟩ = some (.int .i64 s) ∧ w'.cell? ⟨w.heap.size, 1, none⟩ = some (.int .i64 c) ∧ w'.cell? ⟨w.heap.size + 1, j, none⟩ = some (.int .i64 (k j))) (first | exact ⟨c1, c2, c3⟩ | exact ⟨d1, d2, d3⟩) ((first | (go_at_call 156; refine (slope_any _ _ _ _ _ (HTB.out.drewN _)).mono ?_; rw [HSL.out]; rintro e w2 ⟨rfl, hb2⟩; have HM2 : Hid (Md w2 w.heap.size s c) := (HM.out.drewN _).below hb2; have HR2 : Hid (Rw w2 (w.heap.size + 1) k) := (HR.out.drewN _).below hb2; have HC2 : Hid (Rw w2 (w.heap.size + 2) cp) := (HC.out.drewN _).below hb2; have HT2 : Hid (WTab w2) := (HTB.out.drewN _).below hb2; have HB2 : Hid (Below w.heap.size w w2) := (low_drewN HBB.out _).trans (hb2.mono HBB.out.size); have d1 := HM2.out.cs; have d2 := HM2.out.cc; have d3 := HR2.out.cell (i := j) (by omega); have d4 := HC2.out.cell (i := j) (by omega); clear hb2)))
          rw [HWR.out]
          clear HM HR HC HTB HBB c1 c2 c3
          go_wp2
          go_quiet (fail)
          go_wp2
          go_roundw
          case rel => exact ⟨j + 1, by omega, by go_num, .inr ⟨j, by omega, HE, rfl, rfl, rfl⟩, HM2.out.drewN _, HR2.out.drewN _, HC2.out.drewN _, HT2.out.drewN _, low_drewN HB2.out _⟩
          case measure => simp [intOf]; omega
        · by_cases hl : aLev t k j < aLev t k i0
          · have HE : Hid (aNx t cp k (j + 1) = some j) := by show _ = _; rw [aNx, HN.out]; exact if_pos ⟨hc, hl⟩
            go_wp2
            go_region_held3 (fun w' => w'.cell? ⟨w.heap.size, 0, none⟩ = some (.int .i64 s) ∧ w'.cell? ⟨w.heap.size, 1, none⟩ = some (.int .i64 c) ∧ w'.cell? ⟨w.heap.size + 1, j, none⟩ = some (.int .i64 (k j))) (first | exact ⟨c1, c2, c3⟩ | exact ⟨d1, d2, d3⟩) ((first | (go_at_call 156; refine (slope_any _ _ _ _ _ (HTB.out.drewN _)).mono ?_; rw [HSL.out]; rintro e w2 ⟨rfl, hb2⟩; have HM2 : Hid (Md w2 w.heap.size s c) := (HM.out.drewN _).below hb2; have HR2 : Hid (Rw w2 (w.heap.size + 1) k) := (HR.out.drewN _).below hb2; have HC2 : Hid (Rw w2 (w.heap.size + 2) cp) := (HC.out.drewN _).below hb2; have HT2 : Hid (WTab w2) := (HTB.out.drewN _).below hb2; have HB2 : Hid (Below w.heap.size w w2) := (low_drewN HBB.out _).trans (hb2.mono HBB.out.size); have d1 := HM2.out.cs; have d2 := HM2.out.cc; have d3 := HR2.out.cell (i := j) (by omega); have d4 := HC2.out.cell (i := j) (by omega); clear hb2)))
            rw [HWR.out]
            clear HM HR HC HTB HBB c1 c2 c3
            go_wp2
            go_quiet (fail)
            go_wp2
            go_roundw
            case rel => exact ⟨j + 1, by omega, by go_num, .inr ⟨j, by omega, HE, rfl, rfl, rfl⟩, HM2.out.drewN _, HR2.out.drewN _, HC2.out.drewN _, HT2.out.drewN _, low_drewN HB2.out _⟩
            case measure => simp [intOf]; omega
          · have HE : Hid (aNx t cp k (j + 1) = some i0) := by show _ = _; rw [aNx, HN.out]; exact if_neg (fun h => hl h.2)
            go_wp2
            go_region_held3 (fun w' => w'.cell? ⟨w.heap.size, 0, none⟩ = some (.int .i64 s) ∧ w'.cell? ⟨w.heap.size, 1, none⟩ = some (.int .i64 c) ∧ w'.cell? ⟨w.heap.size + 1, j, none⟩ = some (.int .i64 (k j))) (first | exact ⟨c1, c2, c3⟩ | exact ⟨d1, d2, d3⟩) ((first | (go_at_call 156; refine (slope_any _ _ _ _ _ (HTB.out.drewN _)).mono ?_; rw [HSL.out]; rintro e w2 ⟨rfl, hb2⟩; have HM2 : Hid (Md w2 w.heap.size s c) := (HM.out.drewN _).below hb2; have HR2 : Hid (Rw w2 (w.heap.size + 1) k) := (HR.out.drewN _).below hb2; have HC2 : Hid (Rw w2 (w.heap.size + 2) cp) := (HC.out.drewN _).below hb2; have HT2 : Hid (WTab w2) := (HTB.out.drewN _).below hb2; have HB2 : Hid (Below w.heap.size w w2) := (low_drewN HBB.out _).trans (hb2.mono HBB.out.size); have d1 := HM2.out.cs; have d2 := HM2.out.cc; have d3 := HR2.out.cell (i := j) (by omega); have d4 := HC2.out.cell (i := j) (by omega); clear hb2)))
            rw [HWR.out]
            clear HM HR HC HTB HBB c1 c2 c3
            go_wp2
            go_quiet (fail)
            go_wp2
            go_roundw
            case rel => exact ⟨j + 1, by omega, by go_num, .inr ⟨i0, by omega, HE, rfl, rfl, rfl⟩, HM2.out.drewN _, HR2.out.drewN _, HC2.out.drewN _, HT2.out.drewN _, low_drewN HB2.out _⟩
            case measure => simp [intOf]; omega
      · have hd : decide (k j < cp j) = false := decide_eq_false hc
        rcases hw with ⟨HN, rfl, rfl, rfl⟩ | ⟨i0, hi0, HN, rfl, rfl, rfl⟩
        · have HE : Hid (aNx t cp k (j + 1) = none) := by show _ = _; rw [aNx, HN.out]; exact if_neg hc
          go_wp2
          go_region_held3 (fun w' => w'.cell? ⟨w.heap.size, 0, none⟩ = some (.int .i64 s) ∧ w'.cell? ⟨w.heap.size, 1, none⟩ = some (.int .i64 c) ∧ w'.cell? ⟨w.heap.size + 1, j, none⟩ = some (.int .i64 (k j))) (first | exact ⟨c1, c2, c3⟩ | exact ⟨d1, d2, d3⟩) ((first | (go_at_call 156; refine (slope_any _ _ _ _ _ (HTB.out.drewN _)).mono ?_; rw [HSL.out]; rintro e w2 ⟨rfl, hb2⟩; have HM2 : Hid (Md w2 w.heap.size s c) := (HM.out.drewN _).below hb2; have HR2 : Hid (Rw w2 (w.heap.size + 1) k) := (HR.out.drewN _).below hb2; have HC2 : Hid (Rw w2 (w.heap.size + 2) cp) := (HC.out.drewN _).below hb2; have HT2 : Hid (WTab w2) := (HTB.out.drewN _).below hb2; have HB2 : Hid (Below w.heap.size w w2) := (low_drewN HBB.out _).trans (hb2.mono HBB.out.size); have d1 := HM2.out.cs; have d2 := HM2.out.cc; have d3 := HR2.out.cell (i := j) (by omega); have d4 := HC2.out.cell (i := j) (by omega); clear hb2)))
          rw [HWR.out]
          clear HM HR HC HTB HBB c1 c2 c3
          go_wp2
          go_quiet (fail)
          go_wp2
          go_roundw
          case rel => exact ⟨j + 1, by omega, by go_num, .inl ⟨HE, rfl, rfl, rfl⟩, HM2.out.drewN _, HR2.out.drewN _, HC2.out.drewN _, HT2.out.drewN _, low_drewN HB2.out _⟩
          case measure => simp [intOf]; omega
        · have HE : Hid (aNx t cp k (j + 1) = some i0) := by show _ = _; rw [aNx, HN.out]; exact if_neg (fun h => hc h.1)
          go_wp2
          go_region_held3 (fun w' => w'.cell? ⟨w.heap.size, 0, none⟩ = some (.int .i64 s) ∧ w'.cell? ⟨w.heap.size, 1, none⟩ = some (.int .i64 c) ∧ w'.cell? ⟨w.heap.size + 1, j, none⟩ = some (.int .i64 (k j))) (first | exact ⟨c1, c2, c3⟩ | exact ⟨d1, d2, d3⟩) ((first | (go_at_call 156; refine (slope_any _ _ _ _ _ (HTB.out.drewN _)).mono ?_; rw [HSL.out]; rintro e w2 ⟨rfl, hb2⟩; have HM2 : Hid (Md w2 w.heap.size s c) := (HM.out.drewN _).below hb2; have HR2 : Hid (Rw w2 (w.heap.size + 1) k) := (HR.out.drewN _).below hb2; have HC2 : Hid (Rw w2 (w.heap.size + 2) cp) := (HC.out.drewN _).below hb2; have HT2 : Hid (WTab w2) := (HTB.out.drewN _).below hb2; have HB2 : Hid (Below w.heap.size w w2) := (low_drewN HBB.out _).trans (hb2.mono HBB.out.size); have d1 := HM2.out.cs; have d2 := HM2.out.cc; have d3 := HR2.out.cell (i := j) (by omega); have d4 := HC2.out.cell (i := j) (by omega); clear hb2)))
          rw [HWR.out]
          clear HM HR HC HTB HBB c1 c2 c3
          go_wp2
          go_quiet (fail)
          go_wp2
          go_roundw
          case rel => exact ⟨j + 1, by omega, by go_num, .inr ⟨i0, by omega, HE, rfl, rfl, rfl⟩, HM2.out.drewN _, HR2.out.drewN _, HC2.out.drewN _, HT2.out.drewN _, low_drewN HB2.out _⟩
          case measure => simp [intOf]; omega
    · obtain rfl : j = B := by omega
      rcases hw with ⟨HN, rfl, rfl, rfl⟩ | ⟨i0, hi0, HN, rfl, rfl, rfl⟩
      · go_wp2
        go_returns
        exact ⟨by rw [HN.out]; rfl, HBB.out⟩
      · go_wp2
        go_returns
        exact ⟨by rw [HN.out]; rfl, HBB.out⟩
end Go.Proofs.YtfgpmdikkncckaaGreatDoor
