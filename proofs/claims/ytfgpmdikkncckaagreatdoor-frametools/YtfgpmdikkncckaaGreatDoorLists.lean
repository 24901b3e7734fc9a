/-
  Lists of numbers, and lists of such lists, of the call's own making: what is appended to them, and what keeps them as they are. No condition.
-/
import Derived.Test.YtfgpmdikkncckaaGreatDoorRows
import Derived.WalkKit
import Derived.Below
import Derived.Laws.AppendOwn
import Derived.Laws.OwnMore
import Derived.OwnWalk
import Derived.Maps.AppendAt
import Derived.Lib.AppendZeros
import Derived.Deep.AppendLies
namespace Go.Proofs.YtfgpmdikkncckaaGreatDoor
set_option linter.unusedVariables false
open Go.RowKit

theorem lint_info : (Tryz.prog.info? 3).map (fun i => (i.zero, i.size, i.bytes)) = some (some (.int .i64 0), 1, 8) := by kernel_rfl

theorem lsl_info : (Tryz.prog.info? 57).map (fun i => (i.zero, i.size, i.bytes)) = some (some (.slice none 0 0), 1, 24) := by kernel_rfl

/-- Numbers, as cells. -/
def intL (r : List Int) : List Value := r.map (Value.int .i64)
theorem intL_len (r : List Int) : (intL r).length = r.length := List.length_map ..
theorem intL_at {r : List Int} {i : Nat} {x : Int} (h : r[i]? = some x) : (intL r)[i]? = some (.int .i64 x) := by simp [intL, h]
theorem intL_app (r s : List Int) : intL (r ++ s) = intL r ++ intL s := List.map_append ..
theorem intL_one (r : List Int) : ∀ u ∈ intL r, u.oneCell' = true := by
  intro u hu
  obtain ⟨i, _, rfl⟩ := List.mem_map.1 hu
  rfl

/-- Numbers lie in a block of the call's own (from block B on), as a slice v tells. -/
def OwnL (w : World) (B : Nat) (v : Value) (r : List Int) : Prop := w.ownsRow B 3 1 v r.length (intL r)

section
variable {w w' : World} {B : Nat} {v : Value} {r : List Int}
theorem OwnL.nil (w : World) (B : Nat) : OwnL w B (.slice none 0 0) [] := World.ownsRow_nil w B 3 1
theorem OwnL.slice (h : OwnL w B v r) : ∃ ao cap, v = .slice ao r.length cap ∧ r.length ≤ cap ∧ cap ≤ maxLen ∧ v.ownBlock = ao.map (·.block) := by
  rcases h.2 with ⟨rfl, h0⟩ | ⟨g, cap, cur, rfl, _, _, h1, h2, _⟩
  · exact ⟨none, 0, by rw [h0], by omega, by omega, rfl⟩
  · exact ⟨_, cap, rfl, h1, h2, rfl⟩
theorem OwnL.form (h : OwnL w B v r) (hr : 0 < r.length) : ∃ g cap, v = .slice (some ⟨g, 0, none⟩) r.length cap ∧ B ≤ g ∧ g < w.heap.size ∧ r.length ≤ cap ∧ cap ≤ maxLen := by
  rcases h.2 with ⟨rfl, h0⟩ | ⟨g, cap, cur, rfl, h1, h2, h3, h4, _⟩
  · omega
  · exact ⟨g, cap, rfl, h1, (Array.getElem?_eq_some_iff.1 h2).1, h3, h4⟩
theorem OwnL.cell {g n cap : Nat} (h : OwnL w B (.slice (some ⟨g, 0, none⟩) n cap) r) {j : Nat} {x : Int} (hj : r[j]? = some x) : w.cell? ⟨g, j, none⟩ = some (.int .i64 x) := by
  have hl : j < r.length := (List.getElem?_eq_some_iff.1 hj).1
  rcases h.2 with ⟨h0, _⟩ | ⟨g', cap', cur, e, _⟩
  · cases h0
  · cases e
    exact (World.ownsRow.cellAt h j (by omega)).trans (intL_at hj)
theorem OwnL.kept {row : Option Nat} (h : OwnL w B v r) (hg : w.grownBy w' row) (hne : v.ownBlock = none ∨ v.ownBlock ≠ row) : OwnL w' B v r := World.ownsRow.kept h hg hne
theorem OwnL.lt (h : OwnL w B v r) {g : Nat} (hg : v.ownBlock = some g) : B ≤ g ∧ g < w.heap.size := World.ownsRow.lt h g hg
theorem OwnL.tag (h : OwnL w B v r) {g : Nat} (hg : v.ownBlock = some g) : ∃ cur, w.heap[g]? = some (.cells cur 3 (0, 0)) := by
  rcases h.2 with ⟨rfl, h0⟩ | ⟨g', cap, cur, rfl, _, h2, _⟩
  · cases hg
  · cases hg; exact ⟨cur, h2⟩
theorem OwnL.same (h : OwnL w B v r) (hs : ∀ i, B ≤ i → i < w.heap.size → w'.heap[i]? = w.heap[i]?) : OwnL w' B v r := by
  refine ⟨h.1, ?_⟩
  rcases h.2 with h0 | ⟨g, cap, cur, h1, h2, h3, h4⟩
  · exact .inl h0
  · exact .inr ⟨g, cap, cur, h1, h2, (hs g h2 (Array.getElem?_eq_some_iff.1 h3).1).trans h3, h4⟩
theorem OwnL.mono {B' : Nat} (h : OwnL w B v r) (hB : B' ≤ B) : OwnL w B' v r := by
  refine ⟨h.1, ?_⟩
  rcases h.2 with h0 | ⟨g, cap, cur, h1, h2, h3⟩
  · exact .inl h0
  · exact .inr ⟨g, cap, cur, h1, by omega, h3⟩
theorem OwnL.news {ad : Addr} {n cap : Nat} (h : OwnL w B (.slice (some ad) n cap) r) : ∀ j u, (intL r)[j]? = some u → w.cell? (ad.add j) = some u := by
  intro j u hu
  rcases h.2 with ⟨h0, _⟩ | ⟨g', cap', cur, e, _⟩
  · cases h0
  · cases e
    have hj : j < r.length := by have := (List.getElem?_eq_some_iff.1 hu).1; rw [intL_len] at this; exact this
    have := World.ownsRow.cellAt h j (by omega)
    rw [hu] at this
    rw [← this]
    rw [WideShapes.add_plain, Nat.zero_add]
end

/-- A number is appended. -/
theorem wpList_pushL {w : World} {ops : Array Oper} {rest : List Oper} {o : Oper} {a : Act} {Q : Exit → Act → World → Prop} (hgd : o.guard = none) (s x : Operand)
    (ho : o.op = .call { callee := .builtin .append, args := #[s, x], argTypes := #[57, 57] }) (B : Nat) (v : Value) (r : List Int) (hs : a.eval s = v) (hown : OwnL w B v r) (g1 : Nat) (y : Int) (hx : a.eval x = .slice (some ⟨g1, 0, none⟩) 1 1)
    (hnew : w.heap[g1]? = some (.cells #[.int .i64 y] 3 (0, 0))) (hn : r.length ≤ 1000000) (hB : B ≤ w.heap.size)
    (h : ∀ g cap w', OwnL w' B (.slice (some ⟨g, 0, none⟩) (r.length + 1) cap) (r ++ [y]) → w.grownBy w' v.ownBlock → (v.ownBlock = some g ∨ g = w.heap.size) → g < w'.heap.size → wpList Tryz.prog ops Q rest (a.put o.dst (.slice (some ⟨g, 0, none⟩) (r.length + 1) cap)) w') : wpList Tryz.prog ops Q (o :: rest) a w := by
  obtain ⟨i0, hi, hz0, hz1, hz2⟩ := info_parts lint_info
  refine wpList_append_lies w hgd s x 57 ho B 3 i0 (.int .i64 0) 1 8 Tryz.underlying57 hi hz0 hz1 hz2 rfl (by decide) v r.length (intL r) hs hown ⟨g1, 0, none⟩ 1 1 [.int .i64 y] hx rfl (World.news_of_block hnew) (intL_one [y]) (by decide) (by unfold maxLen; omega) (by omega) hB _ rfl ?_
  intro g cap w' h1 h2 h3 h4
  refine h g cap w' ?_ h2 h3 h4
  unfold OwnL
  rw [intL_app, List.length_append]
  exact h1

theorem run_catL (w : World) (ty : TypeId) (B : Nat) (v : Value) (r : List Int) (hown : OwnL w B v r) (B' : Nat) (x : Value) (s : List Int) (hx : OwnL w B' x s) (hn : r.length ≤ 1000000) (hm : s.length ≤ 1000000) (hB : B ≤ w.heap.size) :
    ∃ v' w', (Builtin.append_ #[57, 57] ty #[v, x]).run Tryz.prog w = .ok v' w' ∧ OwnL w' B v' (r ++ s) ∧ w.grownBy w' v.ownBlock ∧ (v'.ownBlock = v.ownBlock ∨ v'.ownBlock = some w.heap.size) := by
  obtain ⟨i0, hi, hz0, hz1, hz2⟩ := info_parts lint_info
  rcases hx.2 with ⟨rfl, h0⟩ | ⟨gx, cx, cur, rfl, _⟩
  · obtain rfl : s = [] := List.length_eq_zero_iff.1 h0
    refine ⟨v, w, ?_, by rw [List.append_nil]; exact hown, ⟨rfl, rfl, rfl, Nat.le_refl _, fun _ _ _ => rfl⟩, .inl rfl⟩
    obtain ⟨ao, cap, rfl, h1, h2, _⟩ := hown.slice
    cases ao with
    | none => simp [Builtin.append_, run_underlying Tryz.underlying57, sizeOf, typeInfo, hi, Builtin.lenOf, Builtin.firstCells, h1]
    | some a => simp [Builtin.append_, run_underlying Tryz.underlying57, sizeOf, typeInfo, hi, Builtin.lenOf, Builtin.firstCells, h1, storeCells]
  · obtain ⟨v', w', hr, h2, h3, _, h5⟩ := run_append_own_at (P := Tryz.prog) w B 57 ty 3 i0 (.int .i64 0) 1 8 Tryz.underlying57 hi hz0 hz1 hz2 rfl (by decide) v r.length (intL r) hown ⟨gx, 0, none⟩ s.length cx (intL s) (by rw [intL_len, Nat.mul_one]) hx.news (intL_one _) (by unfold maxLen; omega) (by omega) hB
    refine ⟨v', w', hr, ?_, h3, h5⟩
    unfold OwnL
    rw [intL_app, List.length_append]
    exact h2
/-- A list is appended to a list. -/
theorem wpList_catL {w : World} {ops : Array Oper} {rest : List Oper} {o : Oper} {a : Act} {Q : Exit → Act → World → Prop} (hgd : o.guard = none) (s x : Operand)
    (ho : o.op = .call { callee := .builtin .append, args := #[s, x], argTypes := #[57, 57] }) (B : Nat) (v : Value) (r : List Int) (hs : a.eval s = v) (hown : OwnL w B v r) (B' : Nat) (y : Value) (t : List Int) (hx : a.eval x = y)
    (hy : OwnL w B' y t) (hn : r.length ≤ 1000000) (hm : t.length ≤ 1000000) (hB : B ≤ w.heap.size)
    (h : ∀ v' w', OwnL w' B v' (r ++ t) → w.grownBy w' v.ownBlock → (v'.ownBlock = v.ownBlock ∨ v'.ownBlock = some w.heap.size) → wpList Tryz.prog ops Q rest (a.put o.dst v') w') : wpList Tryz.prog ops Q (o :: rest) a w := by
  obtain ⟨v', w', hr, h2, h3, h4⟩ := run_catL w o.type B v r hown B' y t hy hn hm hB
  exact Lib.wpList_append_run w hgd s x 57 57 ho _ _ hs hx _ w' hr (h v' w' h2 h3 h4)

/-- Lists of numbers lie in a block of the call's own, and each of them, too. -/
def OwnLL (w : World) (B : Nat) (v : Value) (L : List (List Int)) : Prop :=
  ∃ xs : List Value, w.ownsRow B 57 1 v L.length xs ∧ ∀ (i : Nat) (r : List Int), L[i]? = some r → ∃ x, xs[i]? = some x ∧ OwnL w B x r

section
variable {w w' : World} {B : Nat} {v : Value} {L : List (List Int)}
theorem OwnLL.nil (w : World) (B : Nat) : OwnLL w B (.slice none 0 0) [] := ⟨[], World.ownsRow_nil w B 57 1, fun i r h => by simp at h⟩
theorem OwnLL.slice (h : OwnLL w B v L) : ∃ ao cap, v = .slice ao L.length cap ∧ L.length ≤ cap ∧ cap ≤ maxLen ∧ v.ownBlock = ao.map (·.block) := by
  obtain ⟨xs, h, _⟩ := h
  rcases h.2 with ⟨rfl, h0⟩ | ⟨g, cap, cur, rfl, _, _, h1, h2, _⟩
  · exact ⟨none, 0, by rw [h0], by omega, by omega, rfl⟩
  · exact ⟨_, cap, rfl, h1, h2, rfl⟩
theorem OwnLL.lt (h : OwnLL w B v L) {g : Nat} (hg : v.ownBlock = some g) : B ≤ g ∧ g < w.heap.size := by
  obtain ⟨xs, h, _⟩ := h
  exact World.ownsRow.lt h g hg
theorem OwnLL.keep (h : OwnLL w B v L) (hg : w.grownBy w' none) : OwnLL w' B v L := by
  obtain ⟨xs, h1, h2⟩ := h
  refine ⟨xs, World.ownsRow.kept h1 hg (by cases v.ownBlock <;> simp), fun i r hr => ?_⟩
  obtain ⟨x, e, hx⟩ := h2 i r hr
  exact ⟨x, e, hx.kept hg (by cases x.ownBlock <;> simp)⟩
theorem OwnLL.same (h : OwnLL w B v L) (hs : ∀ i, B ≤ i → i < w.heap.size → w'.heap[i]? = w.heap[i]?) : OwnLL w' B v L := by
  obtain ⟨xs, h1, h2⟩ := h
  refine ⟨xs, ⟨h1.1, ?_⟩, fun i r hr => ?_⟩
  · rcases h1.2 with h0 | ⟨g, cap, cur, a1, a2, a3, a4⟩
    · exact .inl h0
    · exact .inr ⟨g, cap, cur, a1, a2, (hs g a2 (Array.getElem?_eq_some_iff.1 a3).1).trans a3, a4⟩
  · obtain ⟨x, e, hx⟩ := h2 i r hr
    exact ⟨x, e, hx.same hs⟩
/-- What one of them is. -/
theorem OwnLL.at {g n cap : Nat} (h : OwnLL w B (.slice (some ⟨g, 0, none⟩) n cap) L) {i : Nat} {r : List Int} (hr : L[i]? = some r) : ∃ x, w.cell? ⟨g, i, none⟩ = some x ∧ OwnL w B x r := by
  obtain ⟨xs, h1, h2⟩ := h
  have hl : i < L.length := (List.getElem?_eq_some_iff.1 hr).1
  obtain ⟨x, e, hx⟩ := h2 i r hr
  rcases h1.2 with ⟨h0, _⟩ | ⟨g', cap', cur, e1, _⟩
  · cases h0
  · cases e1
    exact ⟨x, (World.ownsRow.cellAt h1 i (by omega)).trans e, hx⟩
theorem OwnLL.form (h : OwnLL w B v L) (hr : 0 < L.length) : ∃ g cap, v = .slice (some ⟨g, 0, none⟩) L.length cap ∧ B ≤ g ∧ g < w.heap.size ∧ L.length ≤ cap ∧ cap ≤ maxLen := by
  obtain ⟨xs, h, _⟩ := h
  rcases h.2 with ⟨rfl, h0⟩ | ⟨g, cap, cur, rfl, h1, h2, h3, h4, _⟩
  · omega
  · exact ⟨g, cap, rfl, h1, (Array.getElem?_eq_some_iff.1 h2).1, h3, h4⟩
end

theorem OwnL.one {w : World} {B : Nat} {x : Value} {r : List Int} (h : OwnL w B x r) : x.oneCell' = true := by
  obtain ⟨ao, cap, rfl, _⟩ := h.slice
  rfl
theorem OwnL.oneCells {w : World} {B : Nat} {x : Value} {r : List Int} (h : OwnL w B x r) : ∀ u ∈ [x], u.oneCell' = true := by
  intro u hu
  obtain rfl : u = x := by simpa using hu
  exact h.one

/-- A list is appended to a list of lists. -/
theorem wpList_pushLL {w : World} {ops : Array Oper} {rest : List Oper} {o : Oper} {a : Act} {Q : Exit → Act → World → Prop} (hgd : o.guard = none) (s x : Operand)
    (ho : o.op = .call { callee := .builtin .append, args := #[s, x], argTypes := #[137, 137] }) (B : Nat) (v : Value) (L : List (List Int)) (hs : a.eval s = v) (hown : OwnLL w B v L) (g1 : Nat) (y : Value) (r : List Int) (hx : a.eval x = .slice (some ⟨g1, 0, none⟩) 1 1)
    (hnew : w.heap[g1]? = some (.cells #[y] 57 (0, 0))) (hy : OwnL w B y r) (hn : L.length ≤ 1000000) (hB : B ≤ w.heap.size)
    (h : ∀ g cap w', OwnLL w' B (.slice (some ⟨g, 0, none⟩) (L.length + 1) cap) (L ++ [r]) → w.grownBy w' v.ownBlock → (v.ownBlock = some g ∨ g = w.heap.size) → g < w'.heap.size → wpList Tryz.prog ops Q rest (a.put o.dst (.slice (some ⟨g, 0, none⟩) (L.length + 1) cap)) w') : wpList Tryz.prog ops Q (o :: rest) a w := by
  obtain ⟨i0, hi, hz0, hz1, hz2⟩ := info_parts lsl_info
  obtain ⟨xs, h1, h2⟩ := hown
  have hxl : xs.length = L.length := by have := h1.1; omega
  have tag : ∀ q, v.ownBlock = some q → ∃ cur, w.heap[q]? = some (.cells cur 57 (0, 0)) := by
    intro q hq
    rcases h1.2 with ⟨rfl, h0⟩ | ⟨g', cap, cur, rfl, _, h3, _⟩
    · cases hq
    · cases hq; exact ⟨cur, h3⟩
  refine wpList_append_lies w hgd s x 137 ho B 57 i0 (.slice none 0 0) 1 24 Tryz.underlying137 hi hz0 hz1 hz2 rfl (by decide) v L.length xs hs h1 ⟨g1, 0, none⟩ 1 1 [y] hx rfl (World.news_of_block hnew) hy.oneCells (by decide) (by unfold maxLen; omega) (by omega) hB _ rfl ?_
  intro g cap w' k1 k2 k3 k4
  have keepx : ∀ {x : Value} {r : List Int}, OwnL w B x r → OwnL w' B x r := by
    intro x r hx
    refine hx.kept k2 ?_
    cases hxo : x.ownBlock with
    | none => exact .inl rfl
    | some q =>
      right
      intro e
      obtain ⟨c1, e1⟩ := hx.tag hxo
      obtain ⟨c2, e2⟩ := tag q e.symm
      rw [e1] at e2
      cases e2
  refine h g cap w' ⟨xs ++ [y], ?_, ?_⟩ k2 k3 k4
  · rw [List.length_append]
    exact k1
  · intro i r' hr
    by_cases hlt : i < L.length
    · rw [List.getElem?_append_left hlt] at hr
      obtain ⟨x, e, hx⟩ := h2 i r' hr
      exact ⟨x, by rw [List.getElem?_append_left (by omega)]; exact e, keepx hx⟩
    · have hi' : i = L.length := by
        have := (List.getElem?_eq_some_iff.1 hr).1
        rw [List.length_append] at this
        simp at this
        omega
      subst hi'
      rw [List.getElem?_append_right (Nat.le_refl _)] at hr
      simp at hr
      subst hr
      exact ⟨y, by rw [List.getElem?_append_right (by omega), hxl]; simp, keepx hy⟩
end Go.Proofs.YtfgpmdikkncckaaGreatDoor
