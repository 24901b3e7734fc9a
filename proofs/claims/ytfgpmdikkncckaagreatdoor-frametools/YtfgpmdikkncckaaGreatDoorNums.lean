/-
  Lists of integers of the call's own making: their cells, stores into them, what is appended to them. No condition; no program.
-/
import Derived.WalkKit
import Derived.Below
import Derived.Laws.AppendOwn
import Derived.Laws.OwnMore
import Derived.OwnWalk
namespace Go.Proofs.YtfgpmdikkncckaaGreatDoor
set_option linter.unusedVariables false
open Go.RowKit

/-- n numbers of a kind, as cells. -/
def numL (k : IntKind) (f : Nat → Int) (n : Nat) : List Value := (List.range n).map fun i => .int k (f i)
theorem numL_len (k : IntKind) (f : Nat → Int) (n : Nat) : (numL k f n).length = n := by simp [numL]
theorem numL_at (k : IntKind) (f : Nat → Int) {n i : Nat} (h : i < n) : (numL k f n)[i]? = some (.int k (f i)) := by simp [numL, h]
theorem numL_congr {k : IntKind} {f g : Nat → Int} {n : Nat} (h : ∀ i, i < n → f i = g i) : numL k f n = numL k g n := by
  unfold numL
  apply List.map_congr_left
  intro i hi
  rw [h i (List.mem_range.1 hi)]
theorem numL_succ {k : IntKind} (f : Nat → Int) (n : Nat) : numL k f n ++ [.int k (f n)] = numL k f (n + 1) := by
  unfold numL; rw [List.range_succ, List.map_append]; rfl
theorem numL_push {k : IntKind} {f g : Nat → Int} {n : Nat} {x : Int} (h : ∀ i, i < n → f i = g i) (hx : g n = x) : numL k f n ++ [.int k x] = numL k g (n + 1) := by
  rw [numL_congr h, ← hx, numL_succ]
theorem numL_set {k : IntKind} (f g : Nat → Int) {n j : Nat} {x : Int} (hg : ∀ i, i < n → g i = if i = j then x else f i) : (numL k f n).set j (.int k x) = numL k g n := by
  apply List.ext_getElem?
  intro i
  by_cases hi : i < n
  · rw [numL_at k g hi, hg i hi]
    by_cases e : i = j
    · subst e; rw [if_pos rfl, List.getElem?_set_self (by rw [numL_len]; exact hi)]
    · rw [if_neg e, List.getElem?_set_ne (by omega), numL_at k f hi]
  · rw [List.getElem?_eq_none (by rw [List.length_set, numL_len]; omega), List.getElem?_eq_none (by rw [numL_len]; omega)]
theorem numL_one (k : IntKind) (x : Int) : ∀ u ∈ ([.int k x] : List Value), u.oneCell' = true := by
  intro u hu; simp at hu; subst hu; rfl

/-- n numbers lie in a block of the call's own (from block B on), as a slice v tells. -/
def OwnN (w : World) (B : Nat) (e : TypeId) (k : IntKind) (v : Value) (n : Nat) (f : Nat → Int) : Prop := w.ownsRow B e 1 v n (numL k f n)

section
variable {w w' : World} {B : Nat} {e : TypeId} {k : IntKind} {v : Value} {n : Nat} {f : Nat → Int}
theorem OwnN.congr {g : Nat → Int} (h : OwnN w B e k v n f) (hg : ∀ i, i < n → f i = g i) : OwnN w B e k v n g := by
  unfold OwnN; rw [← numL_congr hg]; exact h
theorem OwnN.form (h : OwnN w B e k v n f) (hn : 0 < n) : ∃ g cap, v = .slice (some ⟨g, 0, none⟩) n cap ∧ B ≤ g ∧ g < w.heap.size ∧ n ≤ cap ∧ cap ≤ maxLen := by
  rcases h.2 with ⟨_, h0⟩ | ⟨g, cap, cur, rfl, h1, h2, h3, h4, _⟩
  · omega
  · exact ⟨g, cap, rfl, h1, (Array.getElem?_eq_some_iff.1 h2).1, h3, h4⟩
theorem OwnN.form0 (h : OwnN w B e k v n f) : (v = .slice none 0 0 ∧ n = 0) ∨ ∃ g cap, v = .slice (some ⟨g, 0, none⟩) n cap ∧ B ≤ g ∧ g < w.heap.size ∧ n ≤ cap ∧ cap ≤ maxLen := by
  rcases h.2 with ⟨h1, h0⟩ | ⟨g, cap, cur, rfl, h1, h2, h3, h4, _⟩
  · exact .inl ⟨h1, h0⟩
  · exact .inr ⟨g, cap, rfl, h1, (Array.getElem?_eq_some_iff.1 h2).1, h3, h4⟩
theorem OwnN.slice (h : OwnN w B e k v n f) : ∃ ao cap, v = .slice ao n cap ∧ n ≤ cap ∧ cap ≤ maxLen ∧ v.ownBlock = ao.map (·.block) := by
  rcases h.form0 with ⟨rfl, rfl⟩ | ⟨g, cap, rfl, _, _, h1, h2⟩
  · exact ⟨none, 0, rfl, Nat.le_refl _, Nat.zero_le _, rfl⟩
  · exact ⟨_, cap, rfl, h1, h2, rfl⟩
theorem OwnN.cell {g cap : Nat} (h : OwnN w B e k (.slice (some ⟨g, 0, none⟩) n cap) n f) {j : Nat} (hj : j < n) : w.cell? ⟨g, j, none⟩ = some (.int k (f j)) :=
  (World.ownsRow.cellAt h j (by omega)).trans (numL_at k f hj)
theorem OwnN.free {g cap : Nat} (h : OwnN w B e k (.slice (some ⟨g, 0, none⟩) n cap) n f) (j : Nat) : w.frozen? ⟨g, j, none⟩ = false := World.ownsRow.frozenAt h j
theorem OwnN.set {g cap : Nat} (h : OwnN w B e k (.slice (some ⟨g, 0, none⟩) n cap) n f) (j : Nat) (x : Int) : OwnN (w.setCell ⟨g, j, none⟩ (.int k x)) B e k (.slice (some ⟨g, 0, none⟩) n cap) n (fun i => if i = j then x else f i) := by
  have := (World.ownsRow.stored h j (.int k x)).1
  rw [numL_set f (fun i => if i = j then x else f i) (fun i _ => rfl)] at this
  exact this
theorem OwnN.kept {row : Option Nat} (h : OwnN w B e k v n f) (hg : w.grownBy w' row) (hne : v.ownBlock = none ∨ v.ownBlock ≠ row) : OwnN w' B e k v n f := World.ownsRow.kept h hg hne
theorem OwnN.lt (h : OwnN w B e k v n f) {g : Nat} (hg : v.ownBlock = some g) : B ≤ g ∧ g < w.heap.size := World.ownsRow.lt h g hg
theorem OwnN.mono {B' : Nat} (h : OwnN w B e k v n f) (hB : B' ≤ B) : OwnN w B' e k v n f := by
  refine ⟨h.1, ?_⟩
  rcases h.2 with h0 | ⟨g, cap, cur, h1, h2, h3⟩
  · exact .inl h0
  · exact .inr ⟨g, cap, cur, h1, by omega, h3⟩
theorem own_nil (w : World) (B : Nat) (e : TypeId) (k : IntKind) (f : Nat → Int) : OwnN w B e k (.slice none 0 0) 0 f := World.ownsRow_nil w B e 1
theorem OwnN.pushed {g : Nat → Int} {x : Int} (h : w.ownsRow B e 1 v (n + 1) (numL k f n ++ [.int k x])) (hf : ∀ i, i < n → f i = g i) (hx : g n = x) : OwnN w B e k v (n + 1) g := by
  unfold OwnN; rw [← numL_push hf hx]; exact h
end

/-- A world grown but for one block of the call's own: what was there ahead of block B is as it was. -/
theorem below_row {B : Nat} {W w w' : World} {row : Option Nat} (h : Below B W w) (hg : w.grownBy w' row) (hrow : ∀ g, row = some g → B ≤ g) (hs : B ≤ w.heap.size) : Below B W w' :=
  h.trans ⟨hg.os, hg.tape, hg.output, hg.size, fun k hk => hg.block k (by omega) (by
    intro e
    have := hrow k e.symm
    omega)⟩
end Go.Proofs.YtfgpmdikkncckaaGreatDoor
