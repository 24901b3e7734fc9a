/-
  The list of calls that the law SwiftBack makes, and the writer beside it: where they lie, and what is appended to the list. No condition.
-/
import Derived.Test.YtiejdlapgppbkaaDoorBackMath
import Derived.Test.YtiejdlapgppbkaaDoorNums
import Derived.Deep.AppendLies
namespace Go.Proofs.YtiejdlapgppbkaaDoor
set_option linter.unusedVariables false
open Go.ChangeShapes Go.WideShapes Go.ChangeAt Go.RowKit

def opCells (o : Opv) : List Value := [.int .u8 o.k, .int .i64 o.a, .int .i64 o.b, .int .i64 o.t, .int .u32 o.x]
def opsL (F : Nat → Opv) : Nat → List Value
  | 0 => []
  | n + 1 => opsL F n ++ opCells (F n)
theorem opsL_len (F : Nat → Opv) : ∀ n, (opsL F n).length = n * 5
  | 0 => rfl
  | n + 1 => by rw [opsL, List.length_append, opsL_len F n]; show n * 5 + 5 = _; omega
theorem opsL_congr {F G : Nat → Opv} : ∀ n, (∀ i, i < n → F i = G i) → opsL F n = opsL G n
  | 0, _ => rfl
  | n + 1, h => by rw [opsL, opsL, opsL_congr n (fun i hi => h i (by omega)), h n (by omega)]
theorem opsL_at (F : Nat → Opv) : ∀ n i j, i < n → j < 5 → (opsL F n)[i * 5 + j]? = (opCells (F i))[j]?
  | 0, i, j, h, _ => by omega
  | n + 1, i, j, h, hj => by
    rw [opsL]
    by_cases e : i = n
    · subst e
      rw [List.getElem?_append_right (by rw [opsL_len]; omega), opsL_len, show i * 5 + j - i * 5 = j by omega]
    · rw [List.getElem?_append_left (by rw [opsL_len]; omega)]
      exact opsL_at F n i j (by omega) hj
theorem opCells_one (o : Opv) : ∀ u ∈ opCells o, u.oneCell' = true := by
  intro u hu
  simp only [opCells, List.mem_cons, List.not_mem_nil, or_false] at hu
  rcases hu with rfl | rfl | rfl | rfl | rfl <;> rfl

structure BackS (w : World) (B bw z : Nat) (vP : Value) (a : Nat) (F : Nat → Opv) (m : Mo) : Prop where
  wr : WrAt w bw z m
  bw1 : bw < B
  p : w.ownsRow B 51 5 vP a (opsL F a)

section
variable {w w' : World} {B bw z a : Nat} {vP : Value} {F G : Nat → Opv} {m m' : Mo}
theorem own_ne {v : Value} {xs : List Value} {n e s : Nat} (h : w.ownsRow B e s v n xs) {row : Option Nat} (hr : ∀ q, row = some q → q < B) : v.ownBlock = none ∨ v.ownBlock ≠ row := by
  cases hb : v.ownBlock with
  | none => exact .inl rfl
  | some q => right; intro e2; have h1 := (h.lt q hb).1; have h2 := hr q e2.symm; omega
theorem BackS.keep (h : BackS w B bw z vP a F m) (hg : w.grownBy w' none) : BackS w' B bw z vP a F m :=
  ⟨h.wr.kept hg (by simp), h.bw1, h.p.kept hg (own_ne h.p (by intro q e; cases e))⟩
/-- All of it lies below this block. -/
structure UnderS (lo bw : Nat) (vP : Value) : Prop where
  w : bw < lo
  p : ∀ g, vP.ownBlock = some g → g < lo
theorem BackS.under (h : BackS w B bw z vP a F m) : UnderS w.heap.size bw vP := ⟨h.wr.lt, fun g e => (h.p.lt g e).2⟩
theorem BackS.keepU {q lo : Nat} (h : BackS w B bw z vP a F m) (hu : UnderS lo bw vP) (hg : w.grownBy w' (some q)) (hq : lo ≤ q) : BackS w' B bw z vP a F m := by
  have hw := hu.w
  refine ⟨h.wr.kept hg (by simp; omega), h.bw1, h.p.kept hg ?_⟩
  cases e : vP.ownBlock with
  | none => exact .inl rfl
  | some g => right; intro e2; cases e2; have := hu.p q e; omega
theorem BackS.op {gP cP i : Nat} (h : BackS w B bw z (.slice (some ⟨gP, 0, none⟩) a cP) a F m) (hi : i < a) (j : Nat) (hj : j < 5) : w.cell? ⟨gP, i * 5 + j, none⟩ = (opCells (F i))[j]? :=
  (World.ownsRow.cellAt h.p (i * 5 + j) (by omega)).trans (opsL_at F a i j hi hj)
theorem BackS.put (h : BackS w B bw z vP a F m) (hw : WrAt w' bw z m') (hg : w.grownBy w' (some bw)) : BackS w' B bw z vP a F m' := by
  have hb := h.bw1
  exact ⟨hw, hb, h.p.kept hg (own_ne h.p (by intro q e; cases e; exact hb))⟩
theorem BackS.congr (h : BackS w B bw z vP a F m) (hFG : ∀ i, i < a → F i = G i) : BackS w B bw z vP a G m := by
  refine ⟨h.wr, h.bw1, ?_⟩
  rw [← opsL_congr a hFG]; exact h.p
theorem row_wr {v : Value} {xs : List Value} {n e s : Nat} (h : w.ownsRow B e s v n xs) (hb : bw < B) : some bw ≠ v.ownBlock := by
  intro e2
  have := (h.lt bw e2.symm).1
  omega
theorem BackS.pushP {g cap : Nat} (h : BackS w B bw z vP a F m) (ho : w'.ownsRow B 51 5 (.slice (some ⟨g, 0, none⟩) (a + 1) cap) (a + 1) (opsL F a ++ opCells (F a))) (hg : w.grownBy w' vP.ownBlock) :
    BackS w' B bw z (.slice (some ⟨g, 0, none⟩) (a + 1) cap) (a + 1) F m :=
  ⟨h.wr.kept hg (row_wr h.p h.bw1), h.bw1, ho⟩
theorem BackS.new (hw : WrAt w bw z m) (hb : bw < B) : BackS w B bw z (.slice none 0 0) 0 F m := ⟨hw, hb, World.ownsRow_nil _ _ _ _⟩
end

theorem bop_info : (Tryd.prog.info? 51).map (fun i => (i.zero, i.size, i.bytes)) = some (some (.agg #[.int .u8 0, .int .i64 0, .int .i64 0, .int .i64 0, .int .u32 0]), 5, 40) := by kernel_rfl

theorem wpList_push5 {w : World} {ops : Array Oper} {rest : List Oper} {o : Oper} {a : Act} {Q : Exit → Act → World → Prop} (hgd : o.guard = none) (s x : Operand)
    (ho : o.op = .call { callee := .builtin .append, args := #[s, x], argTypes := #[45, 45] }) (B : Nat) (v : Value) (n : Nat) (F : Nat → Opv) (hs : a.eval s = v) (hown : w.ownsRow B 51 5 v n (opsL F n)) (g1 : Nat) (y : Opv) (hx : a.eval x = .slice (some ⟨g1, 0, none⟩) 1 1)
    (hnew : w.heap[g1]? = some (.cells (opCells y).toArray 51 (0, 0))) (hn : n ≤ 1000000) (hB : B ≤ w.heap.size)
    (h : ∀ g cap w', w'.ownsRow B 51 5 (.slice (some ⟨g, 0, none⟩) (n + 1) cap) (n + 1) (opsL F n ++ opCells y) → w.grownBy w' v.ownBlock → (v.ownBlock = some g ∨ g = w.heap.size) → g < w'.heap.size → wpList Tryd.prog ops Q rest (a.put o.dst (.slice (some ⟨g, 0, none⟩) (n + 1) cap)) w') : wpList Tryd.prog ops Q (o :: rest) a w := by
  obtain ⟨i0, hi, hz0, hz1, hz2⟩ := info_parts bop_info
  exact wpList_append_lies w hgd s x 45 ho B 51 i0 _ 5 40 Tryd.underlying45 hi hz0 hz1 hz2 rfl (by decide) v n (opsL F n) hs hown ⟨g1, 0, none⟩ 1 1 (opCells y) hx rfl (World.news_of_block hnew) (opCells_one y) (by decide) (by unfold maxLen; omega) (by omega) hB _ rfl h
end Go.Proofs.YtiejdlapgppbkaaDoor
