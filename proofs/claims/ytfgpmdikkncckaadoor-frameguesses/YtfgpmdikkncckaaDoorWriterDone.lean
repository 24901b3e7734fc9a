/-
  What Done of package writer makes: the packet in memory of its own, or ErrFull. Nothing that was there is turned.
-/
import Derived.Test.YtfgpmdikkncckaaDoorWriterCalls4
import Derived.Laws.CopyOwn
import Derived.OwnWalk
import Derived.Deep.RegionHeld3
import Derived.Laws.Rows
namespace Go.Proofs.YtfgpmdikkncckaaDoor
set_option linter.unusedVariables false
open Go.ChangeShapes Go.WideShapes Go.ChangeAt Go.RowKit

theorem u8_info : (Tryd.prog.info? 5).map (fun i => (i.zero, i.size, i.bytes)) = some (some (.int .u8 0), 1, 1) := by kernel_rfl
theorem u8_size : (Tryd.prog.info? 5).map (·.size) = some 1 := by kernel_rfl

def bytesL (f : Nat → Int) (n : Nat) : List Value := (List.range n).map fun i => .int .u8 (f i)
theorem bytesL_len (f : Nat → Int) (n : Nat) : (bytesL f n).length = n := by simp [bytesL]
theorem bytesL_at (f : Nat → Int) {n i : Nat} (h : i < n) : (bytesL f n)[i]? = some (.int .u8 (f i)) := by simp [bytesL, h]
theorem bytesL_inv (f : Nat → Int) {n i : Nat} {v : Value} (h : (bytesL f n)[i]? = some v) : i < n ∧ v = .int .u8 (f i) := by
  have hi : i < n := by
    have := (List.getElem?_eq_some_iff.1 h).1
    rw [bytesL_len] at this; exact this
  rw [bytesL_at f hi] at h
  cases h
  exact ⟨hi, rfl⟩
theorem bytesL_one (f : Nat → Int) (n : Nat) : ∀ v ∈ bytesL f n, v.oneCell' = true := by
  intro v hv
  obtain ⟨i, _, rfl⟩ := List.mem_map.1 hv
  rfl
theorem splice_at {α : Type} (L : List α) (off : Nat) (cs : List α) (h : off + cs.length ≤ L.length) (i : Nat) : (splice L off cs)[i]? = if i < off then L[i]? else if i < off + cs.length then cs[i - off]? else L[i]? := by
  unfold splice
  by_cases h1 : i < off
  · rw [if_pos h1, List.getElem?_append_left (by simp; omega), List.getElem?_take, if_pos h1]
  · rw [if_neg h1, List.getElem?_append_right (by simp; omega)]
    have e : min off L.length = off := by omega
    rw [List.length_take, e]
    by_cases h2 : i < off + cs.length
    · rw [if_pos h2, List.getElem?_append_left (by omega)]
    · rw [if_neg h2, List.getElem?_append_right (by omega), List.getElem?_drop]
      congr 1
      omega

theorem splice_len {α : Type} (L : List α) (off : Nat) (cs : List α) (h : off + cs.length ≤ L.length) : (splice L off cs).length = L.length := by
  unfold splice; simp; omega
theorem lt_size_of_block {w : World} {g : Nat} {o : Obj} (h : w.heap[g]? = some o) : g < w.heap.size := (Array.getElem?_eq_some_iff.1 h).1
theorem lit_heap {w : World} {g : Nat} {o : Obj} (h : w.heap[g]? = some o) (hlt : g < w.heap.size) (o' : Obj) : (w.alloc o').drew.heap[g]? = some o := (heap_alloc_old w o' hlt).trans h
theorem lit_one (a b c : Int) : ∀ v ∈ ([.int .u8 a, .int .u8 b, .int .u8 c] : List Value), v.oneCell' = true := by
  intro v hv
  simp only [List.mem_cons, List.not_mem_nil, or_false] at hv
  rcases hv with rfl | rfl | rfl <;> rfl
theorem lit_cells (w : World) (a b c : Value) (t : TypeId) : ∀ (j : Nat) (v : Value), [a, b, c][j]? = some v → (w.alloc (.cells #[a, b, c] t)).drew.cell? (Addr.add ⟨w.heap.size, 0, none⟩ j) = some v := by
  intro j v h
  have hb := heap_alloc_new w (.cells #[a, b, c] t)
  have := cell_of_row (w.alloc (.cells #[a, b, c] t)) w.heap.size j _ _ _ hb
  rw [add_plain, Nat.zero_add]
  show (w.alloc (.cells #[a, b, c] t)).cell? _ = _
  rw [this]
  simpa using h
theorem below_lit {w0 w : World} {B : Nat} (h : Below B w0 w) (hlt : B < w.heap.size) (o : Obj) : Below B w0 (w.alloc o).drew :=
  (h.alloc (Nat.le_of_lt hlt) o).drew

/-- Bytes that lie in a block of their own. -/
def BytesAt (w : World) (g z : Nat) (p : Nat → Int) : Prop := ∃ L : List Value, w.heap[g]? = some (.cells L.toArray 5 (0, 0)) ∧ L.length = z ∧ ∀ i, i < z → L[i]? = some (.int .u8 (p i))
theorem BytesAt.cell {w : World} {g z : Nat} {p : Nat → Int} (h : BytesAt w g z p) {i : Nat} (hi : i < z) : w.cell? ⟨g, i, none⟩ = some (.int .u8 (p i)) := by
  obtain ⟨L, h1, h2, h3⟩ := h
  rw [cell_of_row _ _ i _ _ _ h1]
  simpa using h3 i hi
theorem BytesAt.kept {w w' : World} {g z : Nat} {p : Nat → Int} (h : BytesAt w g z p) (hb : w'.heap[g]? = w.heap[g]?) : BytesAt w' g z p := by
  obtain ⟨L, h1, h2, h3⟩ := h
  exact ⟨L, hb.trans h1, h2, h3⟩
theorem BytesAt.lt {w : World} {g z : Nat} {p : Nat → Int} (h : BytesAt w g z p) : g < w.heap.size := by
  obtain ⟨L, h1, h2, h3⟩ := h
  exact lt_size_of_block h1
end Go.Proofs.YtfgpmdikkncckaaDoor
