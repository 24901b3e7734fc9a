/-
  The beginning that three laws of layer 14 (alloc) share: the mode of an ask, a new book. Nothing that was there has turned.
-/
import Derived.Test.YtkilngogdbjmbaaDoorAllocAwake
namespace Go.Proofs.YtkilngogdbjmbaaDoor
set_option linter.unusedVariables false
set_option maxRecDepth 20000
open Go.ChangeShapes Go.WideShapes Go.ChangeAt Go.RowKit
attribute [local go_sem] eql5 eql5x equal5 equal5x

/-- An ask lies at a block. -/
def AskAt (w : World) (g : Nat) (s c t n : Int) : Prop := w.heap[g]? = some (.cells #[.int .i64 s, .int .i64 c, .int .i64 t, .int .i64 n] 23 (0, 0))
section
variable {w w' : World} {g b : Nat} {s c t n : Int}
theorem AskAt.lt (h : AskAt w g s c t n) : g < w.heap.size := (Array.getElem?_eq_some_iff.1 h).1
theorem AskAt.below (h : AskAt w g s c t n) (hb : Below w.heap.size w w') : AskAt w' g s c t n := (hb.block g h.lt).trans h
theorem AskAt.kp (h : AskAt w g s c t n) (hk : Kp w w' b) (hg : g ≠ b) : AskAt w' g s c t n := hk _ _ _ _ hg h
theorem AskAt.new (w : World) (s c t n : Int) : AskAt (w.alloc (.cells #[.int .i64 s, .int .i64 c, .int .i64 t, .int .i64 n] 23)) w.heap.size s c t n := heap_alloc_new w _
theorem AskAt.c0 (h : AskAt w g s c t n) : w.cell? ⟨g, 0, none⟩ = some (.int .i64 s) := cell_of_row _ _ 0 _ _ _ h
theorem AskAt.c1 (h : AskAt w g s c t n) : w.cell? ⟨g, 1, none⟩ = some (.int .i64 c) := cell_of_row _ _ 1 _ _ _ h
theorem AskAt.c2 (h : AskAt w g s c t n) : w.cell? ⟨g, 2, none⟩ = some (.int .i64 t) := cell_of_row _ _ 2 _ _ _ h
theorem AskAt.c3 (h : AskAt w g s c t n) : w.cell? ⟨g, 3, none⟩ = some (.int .i64 n) := cell_of_row _ _ 3 _ _ _ h
theorem AskAt.drewN (h : AskAt w g s c t n) (d : Nat) : AskAt (w.drewN d) g s c t n := h
theorem AskAt.alloc (h : AskAt w g s c t n) (o : Obj) : AskAt (w.alloc o) g s c t n := (heap_alloc_old _ _ h.lt).trans h
theorem AskAt.set_other (h : AskAt w g s c t n) {g' : Nat} (hg : g ≠ g') (i : Nat) (v : Value) : AskAt (w.setCell ⟨g', i, none⟩ v) g s c t n := (heap_setCell_other w ⟨g', i, none⟩ g v (by simpa using hg)).trans h
theorem gb_drewN {mo mo' : Option Nat} (h : Gb w w' b mo mo') (d : Nat) : Gb w (w'.drewN d) b mo mo' := ⟨h.os, h.tape, h.output, h.size, h.block, h.map⟩
end

/-- What is there before a law's book, and with it. -/
structure Ini (w X : World) (s c t n : Int) : Prop where
  ask : AskAt X w.heap.size s c t n
  low : Below w.heap.size w X
  tab : WTab X
structure St (w X : World) (s c t n : Int) (b : Nat) : Prop where
  ini : Ini w X s c t n
  book : ∃ mo, Bk X b mo ∧ ∀ m, mo = some m → w.heap.size ≤ m
  lo : w.heap.size < b
def Kq (w w' : World) : Prop := ∀ (g : Nat) (c : Array Value) (t : TypeId) (z : Nat × Nat), w.heap[g]? = some (.cells c t z) → w'.heap[g]? = some (.cells c t z)
section
variable {w X X' : World} {s c t n : Int} {b g : Nat} {mo mo' : Option Nat}
theorem Kq.below (h : Below X.heap.size X X') : Kq X X' := fun g c t z hh => (h.block g (Array.getElem?_eq_some_iff.1 hh).1).trans hh
theorem Md.kq {s c : Int} (h : Md X g s c) (hk : Kq X X') : Md X' g s c := hk _ _ _ _ h
theorem Rw.kq {f : Nat → Int} (h : Rw X g f) (hk : Kq X X') : Rw X' g f := hk _ _ _ _ h
theorem Md.fz {s c : Int} (h : Md X g s c) (i : Nat) : X.frozen? ⟨g, i, none⟩ = false := frozen_of_row _ _ i _ _ h
theorem Ini.below (h : Ini w X s c t n) (hb : Below X.heap.size X X') : Ini w X' s c t n := ⟨h.ask.below hb, h.low.trans (hb.mono h.low.size), h.tab.below hb⟩
theorem Ini.alloc (h : Ini w X s c t n) (o : Obj) : Ini w (X.alloc o) s c t n := h.below (gN_below (gN_alloc (gN_refl X) o))
theorem Ini.drewN (h : Ini w X s c t n) (d : Nat) : Ini w (X.drewN d) s c t n := ⟨h.ask, low_drewN h.low d, h.tab⟩
theorem St.below (h : St w X s c t n b) (hb : Below X.heap.size X X') : St w X' s c t n b := by
  obtain ⟨mo, hB, hm⟩ := h.book
  exact ⟨h.ini.below hb, ⟨mo, hB.keep ⟨hb.os, hb.tape, hb.output, hb.size, fun i hi _ => hb.block i hi⟩, hm⟩, h.lo⟩
theorem St.alloc (h : St w X s c t n b) (o : Obj) : St w (X.alloc o) s c t n b := h.below (gN_below (gN_alloc (gN_refl X) o))
theorem St.drewN (h : St w X s c t n b) (d : Nat) : St w (X.drewN d) s c t n b := by
  obtain ⟨mo, hB, hm⟩ := h.book
  exact ⟨h.ini.drewN d, ⟨mo, hB.drewN d, hm⟩, h.lo⟩
theorem St.bl (h : St w X s c t n b) : b < X.heap.size := by
  obtain ⟨mo, hB, _⟩ := h.book
  exact hB.lt
theorem St.al (h : St w X s c t n b) : w.heap.size < X.heap.size := h.ini.ask.lt
theorem St.call (h : St w X s c t n b) (hB : Bk X b mo) (hm : ∀ m, mo = some m → w.heap.size ≤ m) (hB' : Bk X' b mo') (hG : Gb X X' b mo mo') : St w X' s c t n b := by
  have hs := h.ini.low.size
  have hlo := h.lo
  obtain ⟨S, hO, hBk⟩ := hB
  have hk : Kp X X' b := fun g c t z hg hh => hG.cells hBk hh hg
  exact ⟨⟨h.ini.ask.kp hk (by omega), h.ini.low.trans (hG.below (by omega) hs hm), h.ini.tab.bk ⟨S, hO, hBk⟩ hG⟩, ⟨mo', hB', hG.lo hs hm⟩, h.lo⟩
theorem St.set {C : Array Value} {T : TypeId} {z : Nat × Nat} (h : St w X s c t n b) (hT : WTab w) (hR : X.heap[g]? = some (.cells C T z)) (hg : w.heap.size < g) (hb : g ≠ b) (i : Nat) (v : Value) : St w (X.setCell ⟨g, i, none⟩ v) s c t n b := by
  obtain ⟨mo, ⟨S, hO, hB⟩, hm⟩ := h.book
  have hs := hT.size
  refine ⟨⟨h.ini.ask.set_other (by omega) i v, h.ini.low.setCell (p := ⟨g, i, none⟩) (by show w.heap.size ≤ g; omega) v, fun j hj => ⟨0, 0, rfl, ?_⟩⟩, ⟨mo, ⟨S, hO, hB.set hR hb i v⟩, hm⟩, h.lo⟩
  rw [Nat.zero_add, World.cell?_of_block (Below.heap_setCell X ⟨g, i, none⟩ v 0 (by show 0 ≠ g; omega))]
  exact h.ini.tab.wid hj
theorem St.put {s0 c0 : Int} (h : St w X s c t n b) (hT : WTab w) (hR : Md X g s0 c0) (hg : w.heap.size < g) (hb : g ≠ b) (s' c' : Int) : St w ((X.setCell ⟨g, 0, none⟩ (.int .i64 s')).setCell ⟨g, 1, none⟩ (.int .i64 c')) s c t n b :=
  (h.set hT hR hg hb 0 _).set hT (heap_setCell_same X g 0 _ _ (.int .i64 s') hR) hg hb 1 _
theorem Rw.new2 (w : World) (o : Obj) (f : Nat → Int) : Rw ((w.alloc o).alloc (.cells (row5 f) 25)) (w.heap.size + 1) f := by
  have := Rw.new (w.alloc o) f
  rwa [show (w.alloc o).heap.size = w.heap.size + 1 from Array.size_push ..] at this
theorem St.drew (h : St w X s c t n b) : St w X.drew s c t n b := h.drewN 1
theorem Ini.drew (h : Ini w X s c t n) : Ini w X.drew s c t n := h.drewN 1
theorem Md.drew {s c : Int} (h : Md X g s c) : Md X.drew g s c := h
theorem Rw.drew {f : Nat → Int} (h : Rw X g f) : Rw X.drew g f := h
theorem Rw.newZ (w : World) : Rw (w.alloc (.cells #[.int .i64 0, .int .i64 0, .int .i64 0, .int .i64 0, .int .i64 0] 25)) w.heap.size (fun _ => 0) := Rw.new w (fun _ => 0)
theorem Rw.newZ' (w : World) : Rw (w.drew.alloc (.cells #[.int .i64 0, .int .i64 0, .int .i64 0, .int .i64 0, .int .i64 0] 25)) w.heap.size (fun _ => 0) := Rw.new w.drew (fun _ => 0)
theorem Rw.new2Z (w : World) (o : Obj) : Rw ((w.alloc o).alloc (.cells #[.int .i64 0, .int .i64 0, .int .i64 0, .int .i64 0, .int .i64 0] 25)) (w.heap.size + 1) (fun _ => 0) := Rw.new2 w o (fun _ => 0)
theorem Rw.new2Z' (w : World) (o : Obj) : Rw ((w.drew.alloc o).alloc (.cells #[.int .i64 0, .int .i64 0, .int .i64 0, .int .i64 0, .int .i64 0] 25)) (w.heap.size + 1) (fun _ => 0) := Rw.new2 w.drew o (fun _ => 0)
theorem Md.put {s0 c0 : Int} (h : Md X g s0 c0) (s c : Int) : Md ((X.setCell ⟨g, 0, none⟩ (.int .i64 s)).setCell ⟨g, 1, none⟩ (.int .i64 c)) g s c := by
  have h1 := heap_setCell_same X g 0 _ _ (.int .i64 s) h
  have h2 := heap_setCell_same _ g 1 _ _ (.int .i64 c) h1
  exact h2
end

/-- The calls, from wherever the law stands. -/
theorem st_new {w X : World} {s c t n : Int} (h : Ini w X s c t n) : Calls Tryd.prog 12 #[] X fun e w' => ∃ b, e = .returned (.pointer (some ⟨b, 0, none⟩)) ∧ St w w' s c t n b ∧ Kq X w' ∧ X.heap.size ≤ b := by
  refine (newb_calls X).mono ?_
  rintro e w' ⟨b, rfl, hB, hb, hle⟩
  have := h.ask.lt
  exact ⟨b, rfl, ⟨h.below hb, ⟨none, hB, fun m e => by cases e⟩, by omega⟩, Kq.below hb, hle⟩

theorem st_all {w X : World} {s c t n : Int} {b : Nat} (s1 c1 t1 n1 : Int) (B : Nat) (hBn : Hid (bandsF s1 c1 = B)) (h5 : B ≤ 5) (h : St w X s c t n b) : Calls Tryd.prog 13 #[.pointer (some ⟨b, 0, none⟩), (.agg #[.int .i64 (s1), .int .i64 (c1)]), .int .i64 t1, .int .i64 n1] X fun e w' => ∃ R, e = .returned (.agg (row5 R)) ∧ Out B c1 t1 n1 R ∧ Fit B R ∧ St w w' s c t n b ∧ Kp X w' b := by
  obtain ⟨mo, hB, hm⟩ := h.book
  refine (alloc_any X b mo s1 c1 t1 n1 B hBn h5 hB h.ini.tab).mono ?_
  rintro e w' ⟨R, rfl, hO, hF, mo', hB', hG⟩
  exact ⟨R, rfl, hO, hF, h.call hB hm hB' hG, Kp.gb hB hG⟩
end Go.Proofs.YtkilngogdbjmbaaDoor
