/-
  The lists that the law ReaderBack makes (the calls that were taken, what was left, the ranges) and the writer beside them: where they lie, and what is appended to them. No condition.
-/
import Derived.Test.YtdbhonebgeeioaaBackMath
import Derived.Test.YtdbhonebgeeioaaNums
import Derived.Deep.AppendLies
namespace Go.Proofs.Ytdbhonebgeeioaa
set_option linter.unusedVariables false
open Go.ChangeShapes Go.WideShapes Go.ChangeAt Go.RowKit

def opCells (o : Opv) : List Value := [.int .u8 o.k, .int .i64 o.a, .int .i64 o.b, .int .i64 o.t, .int .u32 o.x]
def opsL (F : Nat → Opv) : Nat → List Value
  | 0 => []
  | n + 1 => opsL F n ++ opCells (F n)
theorem opsL_len (F : Nat → Opv) : ∀ n, (opsL F n).length = n * 5
  | 0 => rfl
  | n + 1 => by rw [opsL, List.length_append, opsL_len F n]; show n * 5 + 5 = _; omega
theorem opsL_congr {F G : Nat → Opv} : ∀ n, (∀ i, i < n → F i = G i) → opsL F n = opsL G n
  | 0, _ => rfl
  | n + 1, h => by rw [opsL, opsL, opsL_congr n (fun i hi => h i (by omega)), h n (by omega)]
theorem opsL_at (F : Nat → Opv) : ∀ n i j, i < n → j < 5 → (opsL F n)[i * 5 + j]? = (opCells (F i))[j]?
  | 0, i, j, h, _ => by omega
  | n + 1, i, j, h, hj => by
    rw [opsL]
    by_cases e : i = n
    · subst e
      rw [List.getElem?_append_right (by rw [opsL_len]; omega), opsL_len, show i * 5 + j - i * 5 = j by omega]
    · rw [List.getElem?_append_left (by rw [opsL_len]; omega)]
      exact opsL_at F n i j (by omega) hj
theorem opCells_one (o : Opv) : ∀ u ∈ opCells o, u.oneCell' = true := by
  intro u hu
  simp only [opCells, List.mem_cons, List.not_mem_nil, or_false] at hu
  rcases hu with rfl | rfl | rfl | rfl | rfl <;> rfl

/-- Two slices share no block. -/
def Dj (a b : Value) : Prop := ∀ g, a.ownBlock = some g → b.ownBlock = some g → False
theorem Dj.symm {a b : Value} (h : Dj a b) : Dj b a := fun g h1 h2 => h g h2 h1
theorem Dj.ne {a b : Value} (h : Dj a b) : a.ownBlock = none ∨ a.ownBlock ≠ b.ownBlock := by
  cases e : a.ownBlock with
  | none => exact .inl rfl
  | some g => right; intro e2; exact h g e e2.symm
theorem Dj.nil (b : Value) : Dj (.slice none 0 0) b := fun g h => by cases h

structure BackJ (w : World) (B bw z : Nat) (vP vL vR : Value) (a b c : Nat) (F : Nat → Opv) (m : Mo) : Prop where
  wr : WrAt w bw z m
  bw1 : bw < B
  p : w.ownsRow B 49 5 vP a (opsL F a)
  l : OwnN w B 3 .i64 vL b (fun i => (Mk F (i + 1)).left z)
  r : OwnN w B 33 .u32 vR c (fun i => (Mk F (i + 1)).rng)
  d1 : Dj vP vL
  d2 : Dj vP vR
  d3 : Dj vL vR

section
variable {w w' : World} {B bw z a b c : Nat} {vP vL vR : Value} {F G : Nat → Opv} {m m' : Mo}
theorem own_ne {v : Value} {xs : List Value} {n e s : Nat} (h : w.ownsRow B e s v n xs) {row : Option Nat} (hr : ∀ q, row = some q → q < B) : v.ownBlock = none ∨ v.ownBlock ≠ row := by
  cases hb : v.ownBlock with
  | none => exact .inl rfl
  | some q => right; intro e2; have h1 := (h.lt q hb).1; have h2 := hr q e2.symm; omega
theorem BackJ.keep (h : BackJ w B bw z vP vL vR a b c F m) (hg : w.grownBy w' none) : BackJ w' B bw z vP vL vR a b c F m :=
  ⟨h.wr.kept hg (by simp), h.bw1, h.p.kept hg (own_ne h.p (by intro q e; cases e)), h.l.kept hg (own_ne h.l (by intro q e; cases e)), h.r.kept hg (own_ne h.r (by intro q e; cases e)), h.d1, h.d2, h.d3⟩
theorem BackJ.keepAt {q : Nat} (h : BackJ w B bw z vP vL vR a b c F m) (hg : w.grownBy w' (some q)) (h0 : bw ≠ q) (h1 : ∀ g, vP.ownBlock = some g → g ≠ q) (h2 : ∀ g, vL.ownBlock = some g → g ≠ q) (h3 : ∀ g, vR.ownBlock = some g → g ≠ q) : BackJ w' B bw z vP vL vR a b c F m := by
  have key : ∀ v : Value, (∀ g, v.ownBlock = some g → g ≠ q) → v.ownBlock = none ∨ v.ownBlock ≠ some q := by
    intro v hv
    cases e : v.ownBlock with
    | none => exact .inl rfl
    | some g => right; intro e2; cases e2; exact hv q e rfl
  exact ⟨h.wr.kept hg (by simp; exact h0), h.bw1, h.p.kept hg (key _ h1), h.l.kept hg (key _ h2), h.r.kept hg (key _ h3), h.d1, h.d2, h.d3⟩
/-- All of it lies below this block. -/
structure Under (lo bw : Nat) (vP vL vR : Value) : Prop where
  w : bw < lo
  p : ∀ g, vP.ownBlock = some g → g < lo
  l : ∀ g, vL.ownBlock = some g → g < lo
  r : ∀ g, vR.ownBlock = some g → g < lo
theorem BackJ.under (h : BackJ w B bw z vP vL vR a b c F m) : Under w.heap.size bw vP vL vR := ⟨h.wr.lt, fun g e => (h.p.lt g e).2, fun g e => (h.l.lt e).2, fun g e => (h.r.lt e).2⟩
theorem BackJ.keepU {q lo : Nat} (h : BackJ w B bw z vP vL vR a b c F m) (hu : Under lo bw vP vL vR) (hg : w.grownBy w' (some q)) (hq : lo ≤ q) : BackJ w' B bw z vP vL vR a b c F m :=
  h.keepAt hg (by have := hu.w; omega) (fun g e => by have := hu.p g e; omega) (fun g e => by have := hu.l g e; omega) (fun g e => by have := hu.r g e; omega)
theorem BackJ.op {gP cP i : Nat} (h : BackJ w B bw z (.slice (some ⟨gP, 0, none⟩) a cP) vL vR a b c F m) (hi : i < a) (j : Nat) (hj : j < 5) : w.cell? ⟨gP, i * 5 + j, none⟩ = (opCells (F i))[j]? :=
  (World.ownsRow.cellAt h.p (i * 5 + j) (by omega)).trans (opsL_at F a i j hi hj)
theorem BackJ.put (h : BackJ w B bw z vP vL vR a b c F m) (hw : WrAt w' bw z m') (hg : w.grownBy w' (some bw)) : BackJ w' B bw z vP vL vR a b c F m' := by
  have hb := h.bw1
  exact ⟨hw, hb, h.p.kept hg (own_ne h.p (by intro q e; cases e; exact hb)), h.l.kept hg (own_ne h.l (by intro q e; cases e; exact hb)), h.r.kept hg (own_ne h.r (by intro q e; cases e; exact hb)), h.d1, h.d2, h.d3⟩
theorem BackJ.congr (h : BackJ w B bw z vP vL vR a b c F m) {n : Nat} (ha : a ≤ n) (hb : b ≤ n) (hc : c ≤ n) (hFG : ∀ i, i < n → F i = G i) : BackJ w B bw z vP vL vR a b c G m := by
  refine ⟨h.wr, h.bw1, ?_, h.l.congr (fun i hi => ?_), h.r.congr (fun i hi => ?_), h.d1, h.d2, h.d3⟩
  · rw [← opsL_congr a (fun i hi => hFG i (by omega))]; exact h.p
  · rw [mk_congr (fun j hj => hFG j (by omega))]
  · rw [mk_congr (fun j hj => hFG j (by omega))]
theorem dj_new {v u : Value} {g n cap : Nat} (h : Dj v u) (hat : v.ownBlock = some g ∨ g = w.heap.size) (hu : ∀ q, u.ownBlock = some q → q < w.heap.size) : Dj (.slice (some ⟨g, 0, none⟩) n cap) u := by
  intro q h1 h2
  have e : g = q := by simpa [Value.ownBlock] using h1
  subst e
  rcases hat with h3 | h3
  · exact h g h3 h2
  · have := hu g h2; omega
theorem row_wr {v : Value} {xs : List Value} {n e s : Nat} (h : w.ownsRow B e s v n xs) (hb : bw < B) : some bw ≠ v.ownBlock := by
  intro e2
  have := (h.lt bw e2.symm).1
  omega
theorem BackJ.pushP {g cap : Nat} (h : BackJ w B bw z vP vL vR a b c F m) (ho : w'.ownsRow B 49 5 (.slice (some ⟨g, 0, none⟩) (a + 1) cap) (a + 1) (opsL F a ++ opCells (F a))) (hg : w.grownBy w' vP.ownBlock) (hat : vP.ownBlock = some g ∨ g = w.heap.size) :
    BackJ w' B bw z (.slice (some ⟨g, 0, none⟩) (a + 1) cap) vL vR (a + 1) b c F m :=
  ⟨h.wr.kept hg (row_wr h.p h.bw1), h.bw1, ho, h.l.kept hg h.d1.symm.ne, h.r.kept hg h.d2.symm.ne, dj_new h.d1 hat (fun q e => (h.l.lt e).2), dj_new h.d2 hat (fun q e => (h.r.lt e).2), h.d3⟩
theorem BackJ.pushL {g cap : Nat} {x : Int} (h : BackJ w B bw z vP vL vR a b c F m) (ho : w'.ownsRow B 3 1 (.slice (some ⟨g, 0, none⟩) (b + 1) cap) (b + 1) (numL .i64 (fun i => (Mk F (i + 1)).left z) b ++ [.int .i64 x])) (hg : w.grownBy w' vL.ownBlock) (hat : vL.ownBlock = some g ∨ g = w.heap.size) (hx : (Mk F (b + 1)).left z = x) :
    BackJ w' B bw z vP (.slice (some ⟨g, 0, none⟩) (b + 1) cap) vR a (b + 1) c F m :=
  ⟨h.wr.kept hg (row_wr h.l h.bw1), h.bw1, h.p.kept hg h.d1.ne, OwnN.pushed ho (fun _ _ => rfl) hx, h.r.kept hg h.d3.symm.ne, (dj_new h.d1.symm hat (fun q e => (h.p.lt q e).2)).symm, h.d2, dj_new h.d3 hat (fun q e => (h.r.lt e).2)⟩
theorem BackJ.pushR {g cap : Nat} {x : Int} (h : BackJ w B bw z vP vL vR a b c F m) (ho : w'.ownsRow B 33 1 (.slice (some ⟨g, 0, none⟩) (c + 1) cap) (c + 1) (numL .u32 (fun i => (Mk F (i + 1)).rng) c ++ [.int .u32 x])) (hg : w.grownBy w' vR.ownBlock) (hat : vR.ownBlock = some g ∨ g = w.heap.size) (hx : (Mk F (c + 1)).rng = x) :
    BackJ w' B bw z vP vL (.slice (some ⟨g, 0, none⟩) (c + 1) cap) a b (c + 1) F m :=
  ⟨h.wr.kept hg (row_wr h.r h.bw1), h.bw1, h.p.kept hg h.d2.ne, h.l.kept hg h.d3.ne, OwnN.pushed ho (fun _ _ => rfl) hx, h.d1, (dj_new h.d2.symm hat (fun q e => (h.p.lt q e).2)).symm, (dj_new h.d3.symm hat (fun q e => (h.l.lt e).2)).symm⟩
theorem BackJ.new (hw : WrAt w bw z m) (hb : bw < B) : BackJ w B bw z (.slice none 0 0) (.slice none 0 0) (.slice none 0 0) 0 0 0 F m :=
  ⟨hw, hb, World.ownsRow_nil _ _ _ _, own_nil _ _ _ _ _, own_nil _ _ _ _ _, Dj.nil _, Dj.nil _, Dj.nil _⟩
theorem BackJ.below {W : World} (h : BackJ w B bw z vP vL vR a b c F m) (hb : Below B W w) {v : Value} {xs : List Value} {n e s : Nat} (ho : w.ownsRow B e s v n xs) (hg : w.grownBy w' v.ownBlock) (hs : B ≤ w.heap.size) : Below B W w' :=
  below_row hb hg (fun g e => (ho.lt g e).1) hs
end

theorem bop_info : (Try.prog.info? 49).map (fun i => (i.zero, i.size, i.bytes)) = some (some (.agg #[.int .u8 0, .int .i64 0, .int .i64 0, .int .i64 0, .int .u32 0]), 5, 40) := by kernel_rfl
theorem bint_info : (Try.prog.info? 3).map (fun i => (i.zero, i.size, i.bytes)) = some (some (.int .i64 0), 1, 8) := by kernel_rfl
theorem bu32_info : (Try.prog.info? 33).map (fun i => (i.zero, i.size, i.bytes)) = some (some (.int .u32 0), 1, 4) := by kernel_rfl

theorem wpList_push5 {w : World} {ops : Array Oper} {rest : List Oper} {o : Oper} {a : Act} {Q : Exit → Act → World → Prop} (hgd : o.guard = none) (s x : Operand)
    (ho : o.op = .call { callee := .builtin .append, args := #[s, x], argTypes := #[41, 41] }) (B : Nat) (v : Value) (n : Nat) (F : Nat → Opv) (hs : a.eval s = v) (hown : w.ownsRow B 49 5 v n (opsL F n)) (g1 : Nat) (y : Opv) (hx : a.eval x = .slice (some ⟨g1, 0, none⟩) 1 1)
    (hnew : w.heap[g1]? = some (.cells (opCells y).toArray 49 (0, 0))) (hn : n ≤ 1000000) (hB : B ≤ w.heap.size)
    (h : ∀ g cap w', w'.ownsRow B 49 5 (.slice (some ⟨g, 0, none⟩) (n + 1) cap) (n + 1) (opsL F n ++ opCells y) → w.grownBy w' v.ownBlock → (v.ownBlock = some g ∨ g = w.heap.size) → g < w'.heap.size → wpList Try.prog ops Q rest (a.put o.dst (.slice (some ⟨g, 0, none⟩) (n + 1) cap)) w') : wpList Try.prog ops Q (o :: rest) a w := by
  obtain ⟨i0, hi, hz0, hz1, hz2⟩ := info_parts bop_info
  exact wpList_append_lies w hgd s x 41 ho B 49 i0 _ 5 40 Try.underlying41 hi hz0 hz1 hz2 rfl (by decide) v n (opsL F n) hs hown ⟨g1, 0, none⟩ 1 1 (opCells y) hx rfl (World.news_of_block hnew) (opCells_one y) (by decide) (by unfold maxLen; omega) (by omega) hB _ rfl h
theorem wpList_pushI {w : World} {ops : Array Oper} {rest : List Oper} {o : Oper} {a : Act} {Q : Exit → Act → World → Prop} (hgd : o.guard = none) (s x : Operand)
    (ho : o.op = .call { callee := .builtin .append, args := #[s, x], argTypes := #[46, 46] }) (B : Nat) (v : Value) (n : Nat) (f : Nat → Int) (hs : a.eval s = v) (hown : OwnN w B 3 .i64 v n f) (g1 : Nat) (y : Int) (hx : a.eval x = .slice (some ⟨g1, 0, none⟩) 1 1)
    (hnew : w.heap[g1]? = some (.cells #[.int .i64 y] 3 (0, 0))) (hn : n ≤ 1000000) (hB : B ≤ w.heap.size)
    (h : ∀ g cap w', w'.ownsRow B 3 1 (.slice (some ⟨g, 0, none⟩) (n + 1) cap) (n + 1) (numL .i64 f n ++ [.int .i64 y]) → w.grownBy w' v.ownBlock → (v.ownBlock = some g ∨ g = w.heap.size) → g < w'.heap.size → wpList Try.prog ops Q rest (a.put o.dst (.slice (some ⟨g, 0, none⟩) (n + 1) cap)) w') : wpList Try.prog ops Q (o :: rest) a w := by
  obtain ⟨i0, hi, hz0, hz1, hz2⟩ := info_parts bint_info
  exact wpList_append_lies w hgd s x 46 ho B 3 i0 (.int .i64 0) 1 8 Try.underlying46 hi hz0 hz1 hz2 rfl (by decide) v n (numL .i64 f n) hs hown ⟨g1, 0, none⟩ 1 1 [.int .i64 y] hx rfl (World.news_of_block hnew) (numL_one _ _) (by decide) (by unfold maxLen; omega) (by omega) hB _ rfl h
theorem wpList_pushU {w : World} {ops : Array Oper} {rest : List Oper} {o : Oper} {a : Act} {Q : Exit → Act → World → Prop} (hgd : o.guard = none) (s x : Operand)
    (ho : o.op = .call { callee := .builtin .append, args := #[s, x], argTypes := #[47, 47] }) (B : Nat) (v : Value) (n : Nat) (f : Nat → Int) (hs : a.eval s = v) (hown : OwnN w B 33 .u32 v n f) (g1 : Nat) (y : Int) (hx : a.eval x = .slice (some ⟨g1, 0, none⟩) 1 1)
    (hnew : w.heap[g1]? = some (.cells #[.int .u32 y] 33 (0, 0))) (hn : n ≤ 1000000) (hB : B ≤ w.heap.size)
    (h : ∀ g cap w', w'.ownsRow B 33 1 (.slice (some ⟨g, 0, none⟩) (n + 1) cap) (n + 1) (numL .u32 f n ++ [.int .u32 y]) → w.grownBy w' v.ownBlock → (v.ownBlock = some g ∨ g = w.heap.size) → g < w'.heap.size → wpList Try.prog ops Q rest (a.put o.dst (.slice (some ⟨g, 0, none⟩) (n + 1) cap)) w') : wpList Try.prog ops Q (o :: rest) a w := by
  obtain ⟨i0, hi, hz0, hz1, hz2⟩ := info_parts bu32_info
  exact wpList_append_lies w hgd s x 47 ho B 33 i0 (.int .u32 0) 1 4 Try.underlying47 hi hz0 hz1 hz2 rfl (by decide) v n (numL .u32 f n) hs hown ⟨g1, 0, none⟩ 1 1 [.int .u32 y] hx rfl (World.news_of_block hnew) (numL_one _ _) (by decide) (by unfold maxLen; omega) (by omega) hB _ rfl h
end Go.Proofs.Ytdbhonebgeeioaa
