/-
  Where a swift reader of the program lies: five numbers, 1275 bytes and a list in one block, a longer list of bytes in a block of its own, both between two bounds; the table of package bits ahead of them; and what stores and other calls make of it. No condition.
-/
import Derived.Test.YtiejdlapgppbkaaDoorSwiftMath
import Derived.Test.YtiejdlapgppbkaaDoorReaderCalls3
namespace Go.Proofs.YtiejdlapgppbkaaDoor
set_option linter.unusedVariables false
open Go.ChangeShapes Go.WideShapes Go.ChangeAt Go.RowKit

/-- The table of package bits lies where the program has it. -/
def Tz (w : World) : Prop := IntsAt w (some ⟨0, 0, none⟩) 32 .u8 tzF
theorem Tz.cell {w : World} (h : Tz w) {i : Nat} (hi : i < 32) : w.cell? ⟨0, i, none⟩ = some (.int .u8 (tzF i)) := by
  obtain ⟨b, off, h1, h2⟩ := h i hi
  cases h1
  rw [Nat.zero_add] at h2; exact h2
theorem Tz.pos {w : World} (h : Tz w) : 0 < w.heap.size := block_lt_of_cell (h.cell (i := 0) (by decide))
theorem Tz.kept {w w' : World} {row : Option Nat} (h : Tz w) (hg : w.grownBy w' row) (hne : some 0 ≠ row) : Tz w' := by
  intro i hi
  refine ⟨0, 0, rfl, ?_⟩
  rw [Nat.zero_add, World.cell?_of_block (a := ⟨0, i, none⟩) (hg.block 0 h.pos hne)]
  exact h.cell hi
theorem Tz.below {w w' : World} (h : Tz w) (hb : Below w.heap.size w w') : Tz w' := IntsAt.below h hb

/-- A block of a swift reader's form. -/
def SRaw (w : World) (b : Nat) : Prop := ∃ L : List Value, w.heap[b]? = some (.cells L.toArray 59 (0, 0)) ∧ L.length = 1281
theorem SRaw.lt {w : World} {b : Nat} (h : SRaw w b) : b < w.heap.size := by obtain ⟨L, h, _⟩ := h; exact lt_size_of_block h
theorem SRaw.fz {w : World} {b : Nat} (h : SRaw w b) (o : Nat) : w.frozen? ⟨b, o, none⟩ = false := by obtain ⟨L, h, _⟩ := h; exact frozen_of_row _ _ o _ _ h
theorem SRaw.val {w : World} {b : Nat} (h : SRaw w b) {o : Nat} (ho : o < 1281) : ∃ v, w.cell? ⟨b, o, none⟩ = some v := by
  obtain ⟨L, h, hl⟩ := h
  refine ⟨L[o]'(by omega), ?_⟩
  rw [cell_of_row _ _ o _ _ _ h]
  simp
theorem SRaw.set {w : World} {b : Nat} (h : SRaw w b) (o : Nat) (v : Value) : SRaw (w.setCell ⟨b, o, none⟩ v) b := by
  obtain ⟨L, h, hl⟩ := h
  refine ⟨L.set o v, ?_, by simp [hl]⟩
  rw [heap_set_row h]
  simp
theorem SRaw.kept {w w' : World} {b : Nat} {row : Option Nat} (h : SRaw w b) (hg : w.grownBy w' row) (hne : some b ≠ row) : SRaw w' b := by
  have hl := h.lt
  obtain ⟨L, h, hl2⟩ := h
  exact ⟨L, (hg.block b hl hne).trans h, hl2⟩

/-- n bytes p of a swift reader at block b. -/
structure SKept (w : World) (lo hi b : Nat) (v : Value) (n : Nat) (p : Nat → Int) : Prop where
  row : SRaw w b
  c0 : w.cell? ⟨b, 0, none⟩ = some (.int .i64 n)
  c6 : w.cell? ⟨b, 1280, none⟩ = some v
  sm : n ≤ 1275 → ∀ i, i < n → w.cell? ⟨b, 5 + i, none⟩ = some (.int .u8 (p i))
  bg : 1275 < n → OwnN w lo 5 .u8 v n p
  b0 : lo ≤ b
  b1 : b < hi
  vh : 1275 < n → ∀ g, v.ownBlock = some g → g < hi ∧ g ≠ b
  tz : Tz w
  t0 : 0 < lo

section
variable {w w' : World} {lo hi b n : Nat} {v : Value} {p : Nat → Int}
theorem SKept.kept {row : Option Nat} (h : SKept w lo hi b v n p) (hg : w.grownBy w' row) (hrow : ∀ q, row = some q → q ≠ 0 ∧ (q < lo ∨ hi ≤ q)) : SKept w' lo hi b v n p := by
  have hne : ∀ q, lo ≤ q → q < hi → some q ≠ row := by
    intro q h1 h2 e
    have := hrow q e.symm
    omega
  have hb : w'.heap[b]? = w.heap[b]? := hg.block b h.row.lt (hne b h.b0 h.b1)
  have hc : ∀ o, w'.cell? ⟨b, o, none⟩ = w.cell? ⟨b, o, none⟩ := fun o => World.cell?_of_block (a := ⟨b, o, none⟩) hb
  refine ⟨h.row.kept hg (hne b h.b0 h.b1), (hc _).trans h.c0, (hc _).trans h.c6, fun hn i hi => (hc _).trans (h.sm hn i hi), fun hn => (h.bg hn).kept hg ?_, h.b0, h.b1, h.vh, h.tz.kept hg ?_, h.t0⟩
  · cases hb : v.ownBlock with
    | none => exact .inl rfl
    | some q => right; exact hne q ((h.bg hn).lt hb).1 (h.vh hn q hb).1
  · intro e
    have := hrow 0 e.symm
    omega
/-- A number of the swift reader's own is written. -/
theorem SKept.set (h : SKept w lo hi b v n p) (o : Nat) (u : Value) (ho : 1 ≤ o) (ho2 : o ≤ 4) : SKept (w.setCell ⟨b, o, none⟩ u) lo hi b v n p := by
  have hb0 := h.b0
  have ht0 := h.t0
  refine ⟨h.row.set o u, cell_off h.c0 (by omega), cell_off h.c6 (by omega), fun hn i hi => cell_off (h.sm hn i hi) (by omega), fun hn => (h.bg hn).kept (grown_setb w b o u) ?_, h.b0, h.b1, h.vh, h.tz.kept (grown_setb w b o u) ?_, h.t0⟩
  · cases hb : v.ownBlock with
    | none => exact .inl rfl
    | some q => right; intro e; cases e; exact (h.vh hn b hb).2 rfl
  · intro e; cases e; omega
end

structure SCells (w : World) (lo hi b : Nat) (v : Value) (n : Nat) (p : Nat → Int) (r x : Int) (k l : Nat) : Prop where
  kp : SKept w lo hi b v n p
  c1 : w.cell? ⟨b, 1, none⟩ = some (.int .u32 r)
  c2 : w.cell? ⟨b, 2, none⟩ = some (.int .u32 x)
  c3 : w.cell? ⟨b, 3, none⟩ = some (.int .i64 k)
  c4 : w.cell? ⟨b, 4, none⟩ = some (.int .i64 l)

section
variable {w w' : World} {lo hi b n k l : Nat} {v : Value} {p : Nat → Int} {r x : Int}
theorem SCells.lt (h : SCells w lo hi b v n p r x k l) : b < w.heap.size := h.kp.row.lt
theorem SCells.fz (h : SCells w lo hi b v n p r x k l) (o : Nat) : w.frozen? ⟨b, o, none⟩ = false := h.kp.row.fz o
theorem SCells.kept {row : Option Nat} (h : SCells w lo hi b v n p r x k l) (hg : w.grownBy w' row) (hrow : ∀ q, row = some q → q ≠ 0 ∧ (q < lo ∨ hi ≤ q)) : SCells w' lo hi b v n p r x k l := by
  have hne : some b ≠ row := by
    intro e
    have := hrow b e.symm
    have := h.kp.b0
    have := h.kp.b1
    omega
  have hb : w'.heap[b]? = w.heap[b]? := hg.block b h.lt hne
  have hc : ∀ o, w'.cell? ⟨b, o, none⟩ = w.cell? ⟨b, o, none⟩ := fun o => World.cell?_of_block (a := ⟨b, o, none⟩) hb
  exact ⟨h.kp.kept hg hrow, (hc _).trans h.c1, (hc _).trans h.c2, (hc _).trans h.c3, (hc _).trans h.c4⟩
theorem SCells.set1 (h : SCells w lo hi b v n p r x k l) (y : Int) : SCells (w.setCell ⟨b, 1, none⟩ (.int .u32 y)) lo hi b v n p y x k l :=
  ⟨h.kp.set 1 _ (by decide) (by decide), World.cell?_setCell_same _ _ _ h.c1, cell_off h.c2 (by decide), cell_off h.c3 (by decide), cell_off h.c4 (by decide)⟩
theorem SCells.set2 (h : SCells w lo hi b v n p r x k l) (y : Int) : SCells (w.setCell ⟨b, 2, none⟩ (.int .u32 y)) lo hi b v n p r y k l :=
  ⟨h.kp.set 2 _ (by decide) (by decide), cell_off h.c1 (by decide), World.cell?_setCell_same _ _ _ h.c2, cell_off h.c3 (by decide), cell_off h.c4 (by decide)⟩
theorem SCells.set3 (h : SCells w lo hi b v n p r x k l) (y : Nat) : SCells (w.setCell ⟨b, 3, none⟩ (.int .i64 y)) lo hi b v n p r x y l :=
  ⟨h.kp.set 3 _ (by decide) (by decide), cell_off h.c1 (by decide), cell_off h.c2 (by decide), World.cell?_setCell_same _ _ _ h.c3, cell_off h.c4 (by decide)⟩
theorem SCells.set4 (h : SCells w lo hi b v n p r x k l) (y : Nat) : SCells (w.setCell ⟨b, 4, none⟩ (.int .i64 y)) lo hi b v n p r x k y :=
  ⟨h.kp.set 4 _ (by decide) (by decide), cell_off h.c1 (by decide), cell_off h.c2 (by decide), cell_off h.c3 (by decide), World.cell?_setCell_same _ _ _ h.c4⟩
theorem SCells.drew (h : SCells w lo hi b v n p r x k l) : SCells w.drew lo hi b v n p r x k l := h.kept (grown_drew (grown_refl w none)) (by intro q e; cases e)
end

/-- A swift reader of n bytes p lies at block b, and is m. -/
def SwAt (w : World) (lo hi b n : Nat) (p : Nat → Int) (m : Re) : Prop := ∃ v, SCells w lo hi b v n p m.rng m.val m.tk m.nb
theorem SwAt.kept {w w' : World} {lo hi b n : Nat} {p : Nat → Int} {m : Re} {row : Option Nat} (h : SwAt w lo hi b n p m) (hg : w.grownBy w' row) (hrow : ∀ q, row = some q → q ≠ 0 ∧ (q < lo ∨ hi ≤ q)) : SwAt w' lo hi b n p m := by
  obtain ⟨v, h⟩ := h
  exact ⟨v, h.kept hg hrow⟩
theorem SwAt.keep {w w' : World} {lo hi b n : Nat} {p : Nat → Int} {m : Re} (h : SwAt w lo hi b n p m) (hg : w.grownBy w' none) : SwAt w' lo hi b n p m := h.kept hg (by intro q e; cases e)
theorem SwAt.lt {w : World} {lo hi b n : Nat} {p : Nat → Int} {m : Re} (h : SwAt w lo hi b n p m) : 0 < lo ∧ lo ≤ b ∧ b < hi ∧ b < w.heap.size := by
  obtain ⟨v, h⟩ := h
  exact ⟨h.kp.t0, h.kp.b0, h.kp.b1, h.lt⟩
theorem SwAt.tz {w : World} {lo hi b n : Nat} {p : Nat → Int} {m : Re} (h : SwAt w lo hi b n p m) : Tz w := by
  obtain ⟨v, h⟩ := h
  exact h.kp.tz
theorem SwAt.raw {w : World} {lo hi b n : Nat} {p : Nat → Int} {m : Re} (h : SwAt w lo hi b n p m) : SRaw w b := by
  obtain ⟨v, h⟩ := h
  exact h.kp.row

/-- What the swift reader calls its bytes: where they lie. -/
theorem SKept.ints {w : World} {lo hi b n : Nat} {v : Value} {p : Nat → Int} (h : SKept w lo hi b v n p) : (n ≤ 1275 ∧ IntsAt w (some ⟨b, 5, none⟩) n .u8 p) ∨ (1275 < n ∧ ∃ ao cap, v = .slice ao n cap ∧ n ≤ cap ∧ cap ≤ maxLen ∧ IntsAt w ao n .u8 p) := by
  by_cases hn : n ≤ 1275
  · exact .inl ⟨hn, fun i hi => ⟨b, 5, rfl, h.sm hn i hi⟩⟩
  · right
    have hb := h.bg (by omega)
    obtain ⟨ao, cap, rfl, h1, h2, _⟩ := hb.slice
    exact ⟨by omega, ao, cap, rfl, h1, h2, hb.ints⟩
end Go.Proofs.YtiejdlapgppbkaaDoor
