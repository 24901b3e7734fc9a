/-
  What Rank, isThere, first and Unrank of package rank do over a book: a right vector's rank, the vector of a rank that there is; what was needed is noted in the book. Nothing that was there is turned but the book's own block and its map.
-/
import Derived.Test.YtkilngogdbjmbaaDoorRankCalls
namespace Go.Proofs.YtkilngogdbjmbaaDoor
set_option linter.unusedVariables false
open Go.ChangeShapes Go.WideShapes Go.ChangeAt Go.RowKit

/-- A book at b, whatever is noted in it; and what a call on it turns. -/
def Bk (w : World) (b : Nat) (mo : Option Nat) : Prop := ∃ S, Ok S ∧ BkAt w b mo S

theorem Bk.lat {w w' : World} {b : Nat} {mo mo' : Option Nat} {ao : Option Addr} {r : List Int} (hB : Bk w b mo) (hG : Gb w w' b mo mo') (h : LAt w ao r) : LAt w' ao r := by
  obtain ⟨S, _, hB⟩ := hB
  exact h.gb hB hG
theorem Bk.alloc {w : World} {b : Nat} {mo : Option Nat} (h : Bk w b mo) (o : Obj) : Bk (w.alloc o) b mo := by
  obtain ⟨S, h1, h2⟩ := h
  exact ⟨S, h1, h2.alloc o⟩
theorem Bk.lt {w : World} {b : Nat} {mo : Option Nat} (h : Bk w b mo) : b < w.heap.size := by
  obtain ⟨S, h1, h2⟩ := h
  exact h2.lt
theorem Bk.keep {w w' : World} {b : Nat} {mo : Option Nat} (h : Bk w b mo) (hg : w.grownBy w' none) : Bk w' b mo := by
  obtain ⟨S, h1, h2⟩ := h
  exact ⟨S, h1, h2.keep hg⟩
theorem Bk.drewN {w : World} {b : Nat} {mo : Option Nat} (h : Bk w b mo) (d : Nat) : Bk (w.drewN d) b mo := h
theorem vb_calls (w : World) (b : Nat) (mo : Option Nat) (n k : Int) (h : Hid (Bk w b mo)) :
    Calls Tryd.prog 55 #[.pointer (some ⟨b, 0, none⟩), .int .i64 n, .int .i64 k] w fun e w' => e = .returned (.int .u64 (vI n k : Nat)) ∧ ∃ mo', Bk w' b mo' ∧ Gb w w' b mo mo' := by
  obtain ⟨S, hO, hB⟩ := h.out
  refine (v_calls w b mo S n k hB hO).mono ?_
  rintro e w' ⟨rfl, mo', hB', hG'⟩
  exact ⟨rfl, mo', ⟨_, hO.un _ _, hB'⟩, hG'⟩
theorem newb_calls (w : World) : Calls Tryd.prog 12 #[] w fun e w' => ∃ b, e = .returned (.pointer (some ⟨b, 0, none⟩)) ∧ Bk w' b none ∧ Below w.heap.size w w' ∧ w.heap.size ≤ b := by
  refine (new_calls w).mono ?_
  rintro e w' ⟨b, rfl, h1, h2, h3⟩
  exact ⟨b, rfl, ⟨_, Ok.no, h1⟩, h2, h3⟩

theorem rk_drop {r : List Int} {q : Nat} {x : Int} (h : r[q]? = some x) (k : Nat) : rk (r.drop q) k = sm (r.length - q - 1) k (place x) + rk (r.drop (q + 1)) (k - x.natAbs) := by
  have hl := (List.getElem?_eq_some_iff.1 h).1
  rw [drop_at h, rk, List.length_drop]
  rw [show r.length - (q + 1) = r.length - q - 1 by omega]
end Go.Proofs.YtkilngogdbjmbaaDoor
