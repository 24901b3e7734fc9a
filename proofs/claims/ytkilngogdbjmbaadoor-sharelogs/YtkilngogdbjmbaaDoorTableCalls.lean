/-
  What V, first, ahead, pulsesOf of package table do over a table that lies in memory: they compute alone. Nothing is turned.
-/
import Derived.Test.YtkilngogdbjmbaaDoorTableMath
import Derived.Test.YtkilngogdbjmbaaDoorRankUn
namespace Go.Proofs.YtkilngogdbjmbaaDoor
set_option linter.unusedVariables false
open Go.ChangeShapes Go.WideShapes Go.ChangeAt Go.RowKit

/-- The row of the vectors of n numbers lies in block b from offset o on. -/
def RowAt (w : World) (b o n : Nat) : Prop := ∀ k, k ≤ 32 → w.cell? ⟨b, o + k, none⟩ = some (.int .u64 (vv n k : Nat))
/-- A table lies at block b. -/
def TabAt (w : World) (b : Nat) : Prop := ∀ n, n ≤ 16 → RowAt w b (n * 33) n

section
variable {w w' : World} {b o n : Nat}
theorem TabAt.cell (h : TabAt w b) {n k : Nat} (hn : n ≤ 16) (hk : k ≤ 32) : w.cell? ⟨b, n * 33 + k, none⟩ = some (.int .u64 (vv n k : Nat)) := h n hn k hk
theorem TabAt.lt (h : TabAt w b) : b < w.heap.size := block_lt_of_cell (h.cell (n := 0) (k := 0) (by omega) (by omega))
theorem TabAt.same (h : TabAt w b) (hb : w'.heap[b]? = w.heap[b]?) : TabAt w' b := by
  intro n hn k hk
  rw [World.cell?_of_block (a := ⟨b, n * 33 + k, none⟩) hb]
  exact h n hn k hk
theorem TabAt.kept {row : Option Nat} (h : TabAt w b) (hg : w.grownBy w' row) (hne : some b ≠ row) : TabAt w' b := h.same (hg.block b h.lt hne)
theorem TabAt.keep (h : TabAt w b) (hg : w.grownBy w' none) : TabAt w' b := h.kept hg (by simp)
theorem TabAt.below (h : TabAt w b) (hb : Below w.heap.size w w') : TabAt w' b := h.same (hb.block b h.lt)
theorem TabAt.alloc (h : TabAt w b) (o : Obj) : TabAt (w.alloc o) b := h.keep (World.grownBy_alloc w o none)
theorem TabAt.drewN (h : TabAt w b) (d : Nat) : TabAt (w.drewN d) b := h
/-- A list's cell lies in another block. -/
theorem TabAt.apart (h : TabAt w b) {g q : Nat} {x : Int} (hq : q ≤ 32) (hc : w.cell? ⟨g, q, none⟩ = some (.int .i64 x)) : b ≠ g := by
  intro e
  subst e
  have := h.cell (n := 0) (k := q) (by omega) hq
  rw [Nat.zero_mul, Nat.zero_add, hc] at this
  cases this
theorem TabAt.gb {b' : Nat} {mo mo' : Option Nat} {S : Int → Int → Bool} (h : TabAt w b) (hB : BkAt w b' mo S) (hG : Gb w w' b' mo mo') : TabAt w' b := by
  intro n hn k hk
  exact cell_gb hB hG (h n hn k hk)
theorem TabAt.bk {b' : Nat} {mo mo' : Option Nat} (h : TabAt w b) (hB : Bk w b' mo) (hG : Gb w w' b' mo mo') : TabAt w' b := by
  obtain ⟨S, _, hB⟩ := hB
  exact h.gb hB hG
end

theorem tv_out (w : World) (b : Nat) (n k : Int) (h : Hid (¬ (0 ≤ n ∧ n ≤ 16 ∧ 0 ≤ k ∧ k ≤ 32))) : Calls Tryd.prog 59 #[.pointer (some ⟨b, 0, none⟩), .int .i64 n, .int .i64 k] w fun e w' => e = .returned (.int .u64 0) ∧ w' = w := by
  by_cases h1 : n < 0
  · go_enter Tryd.func59, Tryd.ntmps59
    go_wp2
    go_returns
    exact ⟨rfl, rfl⟩
  · by_cases h2 : 16 < n
    · go_enter Tryd.func59, Tryd.ntmps59
      go_wp2
      go_returns
      exact ⟨rfl, rfl⟩
    · by_cases h3 : k < 0
      · go_enter Tryd.func59, Tryd.ntmps59
        go_wp2
        go_returns
        exact ⟨rfl, rfl⟩
      · have h4 : 32 < k := by have := h.out; omega
        go_enter Tryd.func59, Tryd.ntmps59
        go_wp2
        go_returns
        exact ⟨rfl, rfl⟩
theorem tv_in (w : World) (b n k : Nat) (hn : n ≤ 16) (hk : k ≤ 32) (h : Hid (TabAt w b)) : Calls Tryd.prog 59 #[.pointer (some ⟨b, 0, none⟩), .int .i64 n, .int .i64 k] w fun e w' => e = .returned (.int .u64 (vv n k : Nat)) ∧ w' = w := by
  have hc := h.out.cell hn hk
  have h1 : ¬ (n : Int) < 0 := by omega
  have h2 : ¬ (16 : Int) < n := by omega
  have h3 : ¬ (k : Int) < 0 := by omega
  have h4 : ¬ (32 : Int) < k := by omega
  go_enter Tryd.func59, Tryd.ntmps59
  go_wp2
  go_returns
  exact ⟨rfl, rfl⟩

theorem tv_any (w : World) (b : Nat) (n k : Int) (h : Hid (TabAt w b)) : Calls Tryd.prog 59 #[.pointer (some ⟨b, 0, none⟩), .int .i64 n, .int .i64 k] w fun e w' => e = .returned (.int .u64 (vI n k : Nat)) ∧ w' = w := by
  by_cases hin : 0 ≤ n ∧ n ≤ 16 ∧ 0 ≤ k ∧ k ≤ 32
  · obtain ⟨a, rfl⟩ : ∃ a : Nat, n = a := ⟨n.toNat, by omega⟩
    obtain ⟨c, rfl⟩ : ∃ c : Nat, k = c := ⟨k.toNat, by omega⟩
    rw [vI_nat (by omega) (by omega)]
    exact tv_in w b a c (by omega) (by omega) h
  · rw [vI_out hin]
    exact tv_out w b n k hin
end Go.Proofs.YtkilngogdbjmbaaDoor
