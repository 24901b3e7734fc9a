/-
  What the calls of package writer do, said of the writer (Left, Rng, Put and Raw whatever is handed in), lists of calls in memory, and the document's example. Nothing that was there has turned but the writer's own block.
-/
import Derived.Test.YtfgpmdikkncckaaDoorWriterDone
import Derived.Laws.BytesArg
namespace Go.Proofs.YtfgpmdikkncckaaDoor
set_option linter.unusedVariables false
open Go.ChangeShapes Go.WideShapes Go.ChangeAt Go.RowKit

theorem below_grown {B b : Nat} {W w w' : World} (h : Below B W w) (hg : w.grownBy w' (some b)) (hb : B ≤ b) (hs : B ≤ w.heap.size) : Below B W w' :=
  h.trans ⟨hg.os, hg.tape, hg.output, hg.size, fun k hk => hg.block k (by omega) (by simp; omega)⟩
theorem grown_size {w w' : World} {row : Option Nat} (h : w.grownBy w' row) : w.heap.size ≤ w'.heap.size := h.size

/-- A variable of the caller's own, behind a call that turns the writer alone. -/
theorem op_cell {wr w2 : World} {b : Nat} {cs : Array Value} {t : TypeId} (hg : (wr.alloc (.cells cs t)).drew.grownBy w2 (some b)) (hb : b < wr.heap.size) (i : Nat) {v : Value} (hv : cs[i]? = some v) : w2.cell? ⟨wr.heap.size, i, none⟩ = some v := by
  have h1 := heap_alloc_new wr (.cells cs t)
  have h2 : w2.heap[wr.heap.size]? = (wr.alloc (.cells cs t)).drew.heap[wr.heap.size]? := hg.block wr.heap.size (lt_size_of_block h1) (by simp; omega)
  rw [cell_of_row _ _ i _ _ _ (h2.trans h1)]
  exact hv

theorem var_cell {w1 w2 : World} {g b : Nat} {cs : Array Value} {t : TypeId} {fr : Nat × Nat} (hg : w1.grownBy w2 (some b)) (h1 : w1.heap[g]? = some (.cells cs t fr)) (hne : g ≠ b) : w2.heap[g]? = some (.cells cs t fr) :=
  (hg.block g (lt_size_of_block h1) (by simp; exact hne)).trans h1
theorem row_cell {w : World} {g : Nat} {cs : Array Value} {t : TypeId} {fr : Nat × Nat} (h : w.heap[g]? = some (.cells cs t fr)) (i : Nat) {v : Value} (hv : cs[i]? = some v) : w.cell? ⟨g, i, none⟩ = some v := by
  rw [cell_of_row _ _ i _ _ _ h]; exact hv

/-- A symbol, put or refused. -/
def Mo.putU (m : Mo) (x y t : Int) : Mo := if 0 ≤ x ∧ x < y ∧ y ≤ t ∧ t ≤ 4096 then m.put x y t else m
def putE (x y t : Int) : Int := if 0 ≤ x ∧ x < y ∧ y ≤ t ∧ t ≤ 4096 then 0 else 1
/-- Raw bits, put or refused. -/
def Mo.rawU (m : Mo) (x n : Int) : Mo := if 0 ≤ n ∧ n ≤ 16 ∧ x < 2 ^ n.toNat then Mo.raw n.toNat x m else m
def rawE (x n : Int) : Int := if 0 ≤ n ∧ n ≤ 16 ∧ x < 2 ^ n.toNat then 0 else 1

theorem putU_good {m : Mo} (h : m.Good) (x y t : Int) : (m.putU x y t).Good := by
  unfold Mo.putU; split
  · rename_i hm; exact put_ok h hm
  · exact h
theorem putU_n {m : Mo} (x y t : Int) : m.nD ≤ (m.putU x y t).nD ∧ (m.putU x y t).nD ≤ m.nD + 2 ∧ (m.putU x y t).nR = m.nR ∧ (m.putU x y t).R = m.R := by
  unfold Mo.putU; split
  · exact ⟨(put_nD m x y t).1, (put_nD m x y t).2, put_nR m x y t⟩
  · exact ⟨by omega, by omega, rfl, rfl⟩
theorem rawU_good {m : Mo} (h : m.Good) (x n : Int) : (m.rawU x n).Good := by
  unfold Mo.rawU; split
  · exact raw_good h _ _
  · exact h
theorem rawU_n {m : Mo} (x n : Int) : (m.rawU x n).nD = m.nD ∧ m.nR ≤ (m.rawU x n).nR ∧ (m.rawU x n).nR ≤ m.nR + 16 := by
  unfold Mo.rawU; split
  · rename_i h
    have := raw_nR n.toNat x m
    exact ⟨this.2.1, by omega, by omega⟩
  · exact ⟨rfl, by omega, by omega⟩

/-- A call as it is handed in. -/
structure Opv where
  k : Int
  a : Int
  b : Int
  t : Int
  x : Int
structure Opv.Ok (o : Opv) : Prop where
  k0 : 0 ≤ o.k
  k1 : o.k ≤ 255
  wa : (Lit.int .i64 o.a).wf = true
  wb : (Lit.int .i64 o.b).wf = true
  wt : (Lit.int .i64 o.t).wf = true
  x0 : 0 ≤ o.x
  x1 : o.x < 4294967296
/-- A list of n calls lies at this address (where there is one of them at all). -/
def OpsAt (w : World) (ao : Option Addr) (n : Nat) (f : Nat → Opv) : Prop :=
  ∀ i, i < n → ∃ b off, ao = some ⟨b, off, none⟩ ∧ w.cell? ⟨b, off + i * 5, none⟩ = some (.int .u8 (f i).k) ∧ w.cell? ⟨b, off + i * 5 + 1, none⟩ = some (.int .i64 (f i).a) ∧ w.cell? ⟨b, off + i * 5 + 2, none⟩ = some (.int .i64 (f i).b) ∧ w.cell? ⟨b, off + i * 5 + 3, none⟩ = some (.int .i64 (f i).t) ∧ w.cell? ⟨b, off + i * 5 + 4, none⟩ = some (.int .u32 (f i).x) ∧ (f i).Ok
theorem OpsAt.below {w w' : World} {ao : Option Addr} {n : Nat} {f : Nat → Opv} (h : OpsAt w ao n f) (hb : Below w.heap.size w w') : OpsAt w' ao n f := by
  intro i hi
  obtain ⟨b, off, h1, c0, c1, c2, c3, c4, ho⟩ := h i hi
  have hl : b < w.heap.size := block_lt_of_cell c0
  exact ⟨b, off, h1, by rw [hb.cell hl]; exact c0, by rw [hb.cell hl]; exact c1, by rw [hb.cell hl]; exact c2, by rw [hb.cell hl]; exact c3, by rw [hb.cell hl]; exact c4, ho⟩
/-- A call, done. -/
def Mo.op (m : Mo) (o : Opv) : Mo := if o.k % 2 = 0 then m.putU o.a o.b o.t else m.rawU o.x o.b
def Mo.ops (f : Nat → Opv) : Nat → Mo → Mo
  | 0, m => m
  | n + 1, m => (Mo.ops f n m).op (f n)
theorem op_good {m : Mo} (h : m.Good) (o : Opv) : (m.op o).Good := by
  unfold Mo.op; split
  · exact putU_good h _ _ _
  · exact rawU_good h _ _
theorem op_n {m : Mo} (o : Opv) : m.nD ≤ (m.op o).nD ∧ (m.op o).nD ≤ m.nD + 2 ∧ m.nR ≤ (m.op o).nR ∧ (m.op o).nR ≤ m.nR + 16 := by
  unfold Mo.op; split
  · have := putU_n (m := m) o.a o.b o.t; omega
  · have := rawU_n (m := m) o.x o.b; omega
theorem ops_good (f : Nat → Opv) {m : Mo} (h : m.Good) : ∀ n, (Mo.ops f n m).Good
  | 0 => h
  | n + 1 => op_good (ops_good f h n) _
theorem ops_n (f : Nat → Opv) (m : Mo) : ∀ n, m.nD ≤ (Mo.ops f n m).nD ∧ (Mo.ops f n m).nD ≤ m.nD + 2 * n ∧ m.nR ≤ (Mo.ops f n m).nR ∧ (Mo.ops f n m).nR ≤ m.nR + 16 * n
  | 0 => ⟨Nat.le_refl _, Nat.le_refl _, Nat.le_refl _, Nat.le_refl _⟩
  | n + 1 => by
    have h1 := ops_n f m n
    have h2 := op_n (m := Mo.ops f n m) (f n)
    rw [Mo.ops]
    omega

/-- The string of so many bytes. -/
def strOf (p : Nat → Int) (z : Nat) : ByteArray := strOfNums ((List.range z).map p)
theorem strOf_congr {p q : Nat → Int} {z : Nat} (h : ∀ i, i < z → p i = q i) : strOf p z = strOf q z := by
  unfold strOf
  congr 1
  apply List.map_congr_left
  intro i hi
  exact h i (List.mem_range.1 hi)
theorem BytesAt.str {w : World} {g z cap o k : Nat} {p : Nat → Int} (h : BytesAt w g z p) (hk : o + k ≤ z) : (convert 22 9 (.slice (some ⟨g, o, none⟩) k cap)).run Tryd.prog w = .ok (.string (strOf (fun i => p (o + i)) k)) w := by
  refine run_convert_bytes_arg (P := Tryd.prog) w 22 5 Tryd.underlying22 Tryd.underlying5 g o k cap ((List.range k).map fun i => p (o + i)) (by simp) (fun i hi => ?_) 9 Tryd.underlying9
  rw [h.cell (by omega)]
  simp [List.getD, hi]
end Go.Proofs.YtfgpmdikkncckaaDoor
