/-
  Lists of pairs of numbers (modes; arrays of two): where they lie, and how one is built by appending. No condition; no program but the type's size.
-/
import Derived.Test.YtammpmfhflnbhaaMore2
import Derived.Test.YtammpmfhflnbhaaModeMath
import Derived.Test.YtammpmfhflnbhaaRows
import Derived.ProofKit
import Derived.OpenShut
import Derived.Deep.AppendLies
namespace Go.Proofs.Ytammpmfhflnbhaa
set_option linter.unusedVariables false
open Go.ChangeShapes Go.WideShapes Go.ChangeAt Go.RowKit
open Go.Sort (grow)

/-- A list of n pairs lies at this address (where there is one of them at all). -/
def PairsAt (w : World) (ao : Option Addr) (n : Nat) (f g : Nat → Int) : Prop :=
  ∀ i, i < n → ∃ b off, ao = some ⟨b, off, none⟩ ∧ w.cell? ⟨b, off + i * 2, none⟩ = some (.int .i64 (f i)) ∧ w.cell? ⟨b, off + i * 2 + 1, none⟩ = some (.int .i64 (g i))
theorem PairsAt.keep {w w' : World} {ao : Option Addr} {n : Nat} {f g : Nat → Int} (h : PairsAt w ao n f g) (hb : Below w.heap.size w w') : PairsAt w' ao n f g := by
  intro i hi
  obtain ⟨b, off, e, c0, c1⟩ := h i hi
  exact ⟨b, off, e, by rw [hb.cell (block_lt_of_cell c0)]; exact c0, by rw [hb.cell (block_lt_of_cell c1)]; exact c1⟩
theorem PairsAt.below {B : Nat} {w w' : World} {ao : Option Addr} {n : Nat} {f g : Nat → Int} (h : PairsAt w ao n f g) (hb : Below B w w') (hB : ∀ a, ao = some a → a.block < B) : PairsAt w' ao n f g := by
  intro i hi
  obtain ⟨b, off, e, c0, c1⟩ := h i hi
  have hlt := hB _ e
  exact ⟨b, off, e, by rw [hb.cell (by exact hlt)]; exact c0, by rw [hb.cell (by exact hlt)]; exact c1⟩

/-- The cells of the first k pairs. -/
def rowL (f g : Nat → Int) : Nat → List Value
  | 0 => []
  | k + 1 => rowL f g k ++ [.int .i64 (f k), .int .i64 (g k)]
theorem rowL_len (f g : Nat → Int) : ∀ k, (rowL f g k).length = k * 2
  | 0 => rfl
  | k + 1 => by rw [rowL, List.length_append, rowL_len f g k]; simp; omega
theorem rowL_at (f g : Nat → Int) : ∀ (k i : Nat), i < k → (rowL f g k)[i * 2]? = some (.int .i64 (f i)) ∧ (rowL f g k)[i * 2 + 1]? = some (.int .i64 (g i))
  | 0, i, h => by omega
  | k + 1, i, h => by
    have hl := rowL_len f g
    rw [rowL]
    by_cases hi : i < k
    · have := rowL_at f g k i hi
      rw [List.getElem?_append_left (by rw [hl]; omega), List.getElem?_append_left (by rw [hl]; omega)]
      exact this
    · have e : i = k := by omega
      subst e
      rw [List.getElem?_append_right (by rw [hl]; omega), List.getElem?_append_right (by rw [hl]; omega), hl]
      simp
theorem row_lies {wr : World} {base : Nat} {e : TypeId} {v : Value} {k : Nat} {f g : Nat → Int} (h : wr.ownsRow base e 2 v k (rowL f g k)) :
    ∃ (ao : Option Addr) (cap : Nat), v = .slice ao k cap ∧ PairsAt wr ao k f g ∧ ∀ a, ao = some a → base ≤ a.block ∧ a.block < wr.heap.size := by
  rcases h.2 with ⟨rfl, rfl⟩ | ⟨q, cap, cur, rfl, hb, hg, hc, _, _, _⟩
  · exact ⟨none, 0, rfl, fun i hi => by omega, fun a ha => by cases ha⟩
  · refine ⟨some ⟨q, 0, none⟩, cap, rfl, fun i hi => ?_, fun a ha => ?_⟩
    · have t := rowL_at f g k i hi
      refine ⟨q, 0, rfl, ?_, ?_⟩
      · rw [Nat.zero_add, h.cellAt _ (by omega)]; exact t.1
      · rw [Nat.zero_add, h.cellAt _ (by omega)]; exact t.2
    · cases ha
      exact h.lt q rfl
theorem row_next {W0 wc w1 : World} {B base k : Nat} {xs : List Value} {e : TypeId} {v : Value} {oo : Obj} (hown : wc.ownsRow base e 2 v k xs) (hB : B ≤ base) (hBel : Below B W0 wc) (hsz : B ≤ wc.heap.size)
    (hgrow : (wc.alloc oo).grownBy w1 v.ownBlock) : Below B W0 w1 := by
  have hrow : ∀ q, v.ownBlock = some q → B ≤ q := fun q hq => by have := (hown.lt q hq).1; omega
  have h1 : (wc.alloc oo).heap.size = wc.heap.size + 1 := by simp
  exact (hBel.alloc (by omega) oo).grown hgrow (by omega) (fun q hq => by have := hrow q hq; omega)

def allS (i : Nat) : Int := ((i / 2 : Nat) : Int)
def allC (i : Nat) : Int := ((i % 2 + 1 : Nat) : Int)
theorem all_next {k m : Nat} (hm : m < 2) : rowL allS allC (2 * k + m) ++ [.int .i64 (k : Int), .int .i64 (1 + (m : Int))] = rowL allS allC (2 * k + (m + 1)) := by
  have e1 : allS (2 * k + m) = k := by unfold allS; omega
  have e2 : allC (2 * k + m) = 1 + m := by unfold allC; omega
  rw [show 2 * k + (m + 1) = 2 * k + m + 1 by omega, rowL, e1, e2]
end Go.Proofs.Ytammpmfhflnbhaa
