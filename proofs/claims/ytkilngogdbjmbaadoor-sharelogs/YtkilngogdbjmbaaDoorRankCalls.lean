/-
  What magnitude, next, goesAhead, Pulses and Before of package rank do, and Size, Place, Pulses and Right of the document's own answers: they compute alone, over lists of numbers that lie anywhere in memory. Nothing is turned.
-/
import Derived.Test.YtkilngogdbjmbaaDoorRankMath
import Derived.Test.YtkilngogdbjmbaaDoorCountLaws
import Derived.Test.YtkilngogdbjmbaaDoorIntsAt
import Derived.Test.YtkilngogdbjmbaaDoorLists
import Derived.Deep.DeepCutAuto
namespace Go.Proofs.YtkilngogdbjmbaaDoor
set_option linter.unusedVariables false
open Go.ChangeShapes Go.WideShapes Go.ChangeAt Go.RowKit

/-- A list of numbers lies at this address (where there is one of them at all). -/
def LAt (w : World) (ao : Option Addr) (r : List Int) : Prop :=
  ∀ (i : Nat) (x : Int), r[i]? = some x → ∃ b off, ao = some ⟨b, off, none⟩ ∧ w.cell? ⟨b, off + i, none⟩ = some (.int .i64 x)
/-- Its numbers are numbers of 64 bits. -/
def WfL (r : List Int) : Prop := ∀ (i : Nat) (x : Int), r[i]? = some x → -9223372036854775808 ≤ x ∧ x ≤ 9223372036854775807

section
variable {w w' : World} {ao : Option Addr} {r : List Int}
theorem LAt.below (h : LAt w ao r) (hb : Below w.heap.size w w') : LAt w' ao r := by
  intro i x hx
  obtain ⟨b, off, e, c⟩ := h i x hx
  exact ⟨b, off, e, by rw [hb.cell (block_lt_of_cell c)]; exact c⟩
theorem LAt.grown (h : LAt w ao r) (hg : w.grownBy w' none) : LAt w' ao r := h.below (gN_below hg)
theorem LAt.alloc (h : LAt w ao r) (o : Obj) : LAt (w.alloc o) ao r := h.grown (World.grownBy_alloc w o none)
theorem LAt.drew (h : LAt w ao r) : LAt w.drew ao r := h
theorem cell_gb {b : Nat} {mo mo' : Option Nat} {S : Int → Int → Bool} (hB : BkAt w b mo S) (hG : Gb w w' b mo mo') {a : Addr} {k : IntKind} {x : Int} (hc : w.cell? a = some (.int k x)) : w'.cell? a = some (.int k x) := by
  have hlt := block_lt_of_cell hc
  have hne : a.block ≠ b := by
    intro e
    have h0 := hB.1
    rw [← e] at h0
    unfold World.cell? at hc
    rw [h0] at hc
    simp only at hc
    split at hc
    · cases hc
    · match h1 : a.off with
      | 0 => rw [h1] at hc; simp at hc
      | o + 1 => rw [h1] at hc; simp at hc
  have hm : some a.block ≠ mo := by
    cases hb : w.heap[a.block]? with
    | none => unfold World.cell? at hc; rw [hb] at hc; cases hc
    | some o =>
      cases o with
      | cells c t z => exact hB.apart hb
      | _ => unfold World.cell? at hc; rw [hb] at hc; cases hc
  rw [World.cell?_of_block (hG.block a.block hlt hne hm)]
  exact hc
theorem LAt.gb {b : Nat} {mo mo' : Option Nat} {S : Int → Int → Bool} (h : LAt w ao r) (hB : BkAt w b mo S) (hG : Gb w w' b mo mo') : LAt w' ao r := by
  intro i x hx
  obtain ⟨bl, off, e, c⟩ := h i x hx
  exact ⟨bl, off, e, cell_gb hB hG c⟩
theorem LAt.tail {b off : Nat} {x : Int} (h : LAt w (some ⟨b, off, none⟩) (x :: r)) : LAt w (some ⟨b, off + 1, none⟩) r := by
  intro i y hy
  obtain ⟨b', off', e, c⟩ := h (i + 1) y (by simpa using hy)
  cases e
  exact ⟨b, off + 1, rfl, by rw [show off + 1 + i = off + (i + 1) by omega]; exact c⟩
theorem LAt.new (w : World) (x : Int) (t : TypeId) : LAt (w.alloc (.cells #[.int .i64 x] t)) (some ⟨w.heap.size, 0, none⟩) [x] := by
  intro i y hy
  match i with
  | 0 =>
    simp at hy
    subst hy
    exact ⟨_, _, rfl, cell_of_row _ _ 0 _ _ _ (heap_alloc_new _ _)⟩
  | i + 1 => simp at hy
theorem LAt.of_ints {n : Nat} {f : Nat → Int} (h : IntsAt w ao n .i64 f) : LAt w ao ((List.range n).map f) := by
  intro i x hx
  have hi : i < n := by have := (List.getElem?_eq_some_iff.1 hx).1; simpa using this
  simp [hi] at hx
  subst hx
  exact h i hi
theorem OwnL.lat {B n cap : Nat} (h : OwnL w B (.slice ao n cap) r) : LAt w ao r := by
  intro i x hx
  have hl : 0 < r.length := by have := (List.getElem?_eq_some_iff.1 hx).1; omega
  obtain ⟨g, c, e, _⟩ := h.form hl
  cases e
  exact ⟨g, 0, rfl, by rw [Nat.zero_add]; exact h.cell hx⟩
theorem WfL.tail {x : Int} (h : WfL (x :: r)) : WfL r := fun i y hy => h (i + 1) y (by simpa using hy)
theorem WfL.pul (h : pul r ≤ 1000) : WfL r := fun i x hx => by have := pul_at r i x hx; omega
end

theorem pul1_take : ∀ (r : List Int) (q : Nat) (x : Int), r[q]? = some x → pul1 (r.take (q + 1)) = pul1 (r.take q) + min x.natAbs 1000
  | [], q, x, h => by simp at h
  | y :: r, 0, x, h => by simp at h; subst h; simp [pul1]
  | y :: r, q + 1, x, h => by simp at h; have := pul1_take r q x h; simp only [List.take_succ_cons, pul1] at this ⊢; omega
theorem pul_take : ∀ (r : List Int) (q : Nat) (x : Int), r[q]? = some x → pul (r.take (q + 1)) = pul (r.take q) + x.natAbs
  | [], q, x, h => by simp at h
  | y :: r, 0, x, h => by simp at h; subst h; simp [pul]
  | y :: r, q + 1, x, h => by simp at h; have := pul_take r q x h; simp only [List.take_succ_cons, pul] at this ⊢; omega

theorem bef_drop : ∀ (r s : List Int) (q : Nat), r.length = s.length → r.take q = s.take q → bef r s = bef (r.drop q) (s.drop q)
  | r, s, 0, _, _ => by simp
  | [], s, q + 1, hl, _ => by
    have : s = [] := List.length_eq_zero_iff.1 (by simpa using hl.symm)
    subst this
    simp
  | x :: r, [], q + 1, hl, _ => by simp at hl
  | x :: r, y :: s, q + 1, hl, h => by
    simp only [List.length_cons] at hl
    simp only [List.take_succ_cons, List.cons.injEq] at h
    obtain ⟨rfl, h⟩ := h
    simp only [bef, if_true, List.drop_succ_cons]
    exact bef_drop r s q (by omega) h
theorem drop_at {r : List Int} {q : Nat} {x : Int} (h : r[q]? = some x) : r.drop q = x :: r.drop (q + 1) := by
  obtain ⟨hl, e⟩ := List.getElem?_eq_some_iff.1 h
  rw [List.drop_eq_getElem_cons hl, e]
theorem take_at {r : List Int} {q : Nat} {x : Int} (h : r[q]? = some x) : r.take (q + 1) = r.take q ++ [x] := by
  rw [List.take_add_one, h]; rfl
end Go.Proofs.YtkilngogdbjmbaaDoor
