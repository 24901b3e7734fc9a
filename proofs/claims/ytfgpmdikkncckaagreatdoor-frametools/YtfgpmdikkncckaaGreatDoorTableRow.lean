/-
  What following of package table does: the row of one number more is made, in memory that is new. Nothing else is turned.
-/
import Derived.Test.YtfgpmdikkncckaaGreatDoorTableCalls
import Derived.Deep.MidRow
import Derived.Deep.WholeRow
import Derived.BigRegion
namespace Go.Proofs.YtfgpmdikkncckaaGreatDoor
set_option linter.unusedVariables false
set_option maxRecDepth 100000
open Go.ChangeShapes Go.WideShapes Go.ChangeAt Go.RowKit

/-- The row of n numbers as cells. -/
def vrow (n : Nat) : List Value := (List.range 33).map fun k => .int .u64 (vv n k : Nat)
theorem vrow_len (n : Nat) : (vrow n).length = 33 := by simp [vrow]
theorem vrow_at (n k : Nat) (hk : k ≤ 32) : (vrow n)[k]? = some (.int .u64 (vv n k : Nat)) := by
  rw [vrow, List.getElem?_map, List.getElem?_range (by omega)]; rfl
theorem vrow_one (n : Nat) : ∀ v ∈ vrow n, v.oneCell' = true := by
  intro v hv
  obtain ⟨k, _, rfl⟩ := List.mem_map.1 hv
  rfl

/-- A row of noughts, and one with a one ahead. -/
def ZR : Array Value := (List.replicate 33 (.int .u64 0)).toArray
def OR : Array Value := (.int .u64 1 :: List.replicate 32 (.int .u64 0)).toArray
theorem ZR_size : ZR.size = 33 := rfl
theorem OR_size : OR.size = 33 := rfl
theorem OR_one : OR.all (·.oneCell') = true := by decide +kernel
theorem row_info : (Tryz.prog.info? 120).map (·.size) = some 33 := by kernel_rfl
theorem row_under : Tryz.prog.underlying 120 = some (.array 33 62) := by kernel_rfl
theorem row_alloc (w : World) : Sem.run Tryz.prog (Instr.alloc 120 true (.tuple #[])) w = .ok (.pointer (some ⟨w.heap.size, 0, none⟩)) (w.alloc (.cells ZR 120)) := by kernel_rfl
theorem row_build (w : World) : Sem.run Tryz.prog (Instr.build 120 #[(0, .int .u64 1)]) w = .ok (.agg OR) w := by kernel_rfl

section
variable {ops : Array Oper} {rest : List Oper} {o : Oper} {a : Act} {w : World} {Q : Exit → Act → World → Prop}
theorem wl_val (hg : o.guard = none) (v : Value) (w' : World) (hrun : (execOp a.eval o).run Tryz.prog w = .ok (.value v) w') (h : wpList Tryz.prog ops Q rest (a.put o.dst v) w') : wpList Tryz.prog ops Q (o :: rest) a w := by
  refine wpList_plain hg fun K hK => ?_
  unfold Oper.wp
  rw [hrun, Oper.upon_value]
  exact hK _ _ h
theorem wl_skip (hg : o.guard = none) (w' : World) (hrun : (execOp a.eval o).run Tryz.prog w = .ok .skip w') (h : wpList Tryz.prog ops Q rest (a.put o.dst undef) w') : wpList Tryz.prog ops Q (o :: rest) a w := by
  refine wpList_plain hg fun K hK => ?_
  unfold Oper.wp
  rw [hrun, Oper.upon_skip]
  exact hK _ _ h
theorem wl_alloc (hg : o.guard = none) (ho : o.op = .alloc 120) (h : wpList Tryz.prog ops Q rest (a.put o.dst (.pointer (some ⟨w.heap.size, 0, none⟩))) (w.alloc (.cells ZR 120))) : wpList Tryz.prog ops Q (o :: rest) a w := by
  refine wl_val hg _ _ ?_ h
  unfold execOp
  simp only [ho, Sem.run_bind, row_alloc, Result.andThen_ok, Sem.run_pure]
theorem wl_build (hg : o.guard = none) (ho : o.op = .build 120 #[(0, .const (.int .u64 1))]) (h : wpList Tryz.prog ops Q rest (a.put o.dst (.agg OR)) w) : wpList Tryz.prog ops Q (o :: rest) a w := by
  refine wl_val hg _ w ?_ h
  unfold execOp
  have e : ((#[(0, .const (.int .u64 1))] : Array (Nat × Operand)).map fun (i, x) => (i, a.eval x)) = #[(0, .int .u64 1)] := by simp [Act.eval]
  simp only [ho, e, Sem.run_bind, row_build, Result.andThen_ok, Sem.run_pure]
/-- A whole row is read. -/
theorem wl_load (hg : o.guard = none) (x : Operand) (ho : o.op = .load 120 x) (b : Nat) (C : Array Value) (hx : a.eval x = .pointer (some ⟨b, 0, none⟩)) (hb : w.heap[b]? = some (.cells C 120 (0, 0))) (hC : C.size = 33)
    (h : wpList Tryz.prog ops Q rest (a.put o.dst (.agg C)) w) : wpList Tryz.prog ops Q (o :: rest) a w := by
  refine wl_val hg _ w ?_ h
  unfold execOp
  simp only [ho, hx, Instr.loadAt, Instr.sureAddr, Sem.run_bind, Sem.run_pure, Result.andThen_ok, run_loadVar_row w b 120 120 C (0, 0) _ hb row_under rfl (by rw [hC]; exact row_info)]
end

theorem heap_two (w : World) (o1 o2 : Obj) : ((w.alloc o1).alloc o2).heap[w.heap.size + 1]? = some o2 := by
  have := heap_alloc_new (w.alloc o1) o2
  rwa [show (w.alloc o1).heap.size = w.heap.size + 1 from Array.size_push ..] at this
theorem row_set (w : World) (o1 : Obj) (C C' : Array Value) (t : TypeId) : ((w.alloc o1).alloc (.cells C t)).setRow (w.heap.size + 1) C' = (w.alloc o1).alloc (.cells C' t) := by
  have := World.setRow_alloc_new (w.alloc o1) C C' t
  rwa [show (w.alloc o1).heap.size = w.heap.size + 1 from Array.size_push ..] at this

/-- A whole row is stored, and read, as the walk opens it. -/
theorem store33 (w : World) (g : Nat) (C D : Array Value) (hb : w.heap[g]? = some (.cells D 120 (0, 0))) (hD : D.size = C.size) (hC : C.size = 33) (h1 : C.all (·.oneCell') = true) :
    Sem.run Tryz.prog (storeCells ⟨g, 0, none⟩ C.toList) w = .ok () (w.setRow g C) := by
  have := run_storeVar_row (P := Tryz.prog) w g 120 120 D C hb (by rw [hC]; exact row_info) hD h1
  cases hq : Tryz.prog.info? 120 with
  | none => have := row_info; rw [hq] at this; cases this
  | some i =>
    have hs : C.size = i.size := by have := row_info; rw [hq] at this; simp at this; omega
    simpa [storeVar, sizeOf, typeInfo, hq, Value.cells, hs] using this
theorem load33 (w : World) (g : Nat) (C : Array Value) (t : TypeId) (fr : Nat × Nat) (hb : w.heap[g]? = some (.cells C t fr)) (hC : C.size = 33) :
    Sem.run Tryz.prog (loadCellsFrom ⟨g, 0, none⟩ 0 33 #[]) w = .ok C w := by
  have := run_loadCells_list (P := Tryz.prog) w ⟨g, 0, none⟩ C.toList (fun j v hv => by
    rw [Addr.add_mid, Nat.zero_add, cell_of_row _ _ j C t fr hb]
    simpa using hv)
  simpa [loadCells, hC] using this

theorem below_setRow {B g : Nat} {a w : World} (h : Below B a w) (hg : B ≤ g) (c : Array Value) : Below B a (w.setRow g c) :=
  ⟨h.os, h.tape, h.output, by simp only [World.setRow, Array.size_modify]; exact h.size, fun k hk => by
    simp only [World.setRow, Array.getElem?_modify]
    rw [if_neg (by omega)]
    exact h.block k hk⟩
/-- The two rows that a row's making lays: the result's, and the one that is filled. -/
structure FR (w wr : World) (B : Nat) (C : Array Value) : Prop where
  low : Below B w wr
  res : wr.heap[B]? = some (.cells ZR 120 (0, 0))
  row : wr.heap[B + 1]? = some (.cells C 120 (0, 0))
  size : C.size = 33
theorem FR.drewN {w wr : World} {B : Nat} {C : Array Value} (h : FR w wr B C) (d : Nat) : FR w (wr.drewN d) B C := ⟨⟨h.low.os, h.low.tape, h.low.output, h.low.size, h.low.block⟩, h.res, h.row, h.size⟩
theorem FR.set {w wr : World} {B : Nat} {C : Array Value} (h : FR w wr B C) (o : Nat) (v : Value) : FR w (wr.setCell ⟨B + 1, o, none⟩ v) B (C.setIfInBounds o v) :=
  ⟨h.low.setCell (p := ⟨B + 1, o, none⟩) (by simp) v, (heap_setCell_other wr ⟨B + 1, o, none⟩ B v (by simp)).trans h.res, heap_setCell_same wr (B + 1) o C _ v h.row, by simp [h.size]⟩
theorem FR.cell {w wr : World} {B : Nat} {C : Array Value} (h : FR w wr B C) {j : Nat} {v : Value} (hc : C[j]? = some v) : wr.cell? ⟨B + 1, j, none⟩ = some v := by
  rw [cell_of_row wr (B + 1) j C _ _ h.row]; exact hc
theorem FR.val {w wr : World} {B : Nat} {C : Array Value} (h : FR w wr B C) {j : Nat} (hj : j < 33) : ∃ v, wr.cell? ⟨B + 1, j, none⟩ = some v := by
  refine ⟨C[j]'(by rw [h.size]; exact hj), h.cell ?_⟩
  simp
theorem FR.fz {w wr : World} {B : Nat} {C : Array Value} (h : FR w wr B C) (j : Nat) : wr.frozen? ⟨B + 1, j, none⟩ = false := frozen_of_row wr (B + 1) j C _ h.row
/-- The numbers of the row so far. -/
def Upto (C : Array Value) (n k : Nat) : Prop := ∀ j, j ≤ k → C[j]? = some (.int .u64 (vv n j : Nat))
theorem Upto.one (n : Nat) (hn : n ≤ 16) : Upto OR n 0 := by
  intro j hj
  obtain rfl : j = 0 := by omega
  rw [vv_one hn]; rfl
theorem Upto.set {C : Array Value} {n k : Nat} (h : Upto C n k) (hC : C.size = 33) (hk : k < 32) : Upto (C.setIfInBounds (k + 1) (.int .u64 (vv n (k + 1) : Nat))) n (k + 1) := by
  intro j hj
  rw [Array.getElem?_setIfInBounds]
  by_cases e : k + 1 = j
  · subst e
    simp [hC, hk]
  · rw [if_neg e]; exact h j (by omega)
theorem Upto.all {C : Array Value} {n : Nat} (h : Upto C n 32) (hC : C.size = 33) : C = (vrow n).toArray := by
  apply Array.ext_getElem?
  intro j
  by_cases hj : j ≤ 32
  · rw [h j hj, List.getElem?_toArray, vrow_at n j hj]
  · rw [Array.getElem?_eq_none (by omega), List.getElem?_toArray, List.getElem?_eq_none (by rw [vrow_len]; omega)]

set_option maxHeartbeats 2000000 in
theorem following_any (w : World) (b n : Nat) (hn : n < 16) (h : Hid (RowAt w b (n * 33) n)) :
    Calls Tryz.prog 69 #[.pointer (some ⟨b, n * 33, none⟩)] w fun e w' => e = .returned (.agg (vrow (n + 1)).toArray) ∧ Below w.heap.size w w' := by
  have hst := store33 ((w.alloc (.cells ZR 120)).alloc (.cells ZR 120)) (w.heap.size + 1) OR ZR (heap_two _ _ _) rfl rfl OR_one
  rw [row_set] at hst
  have hbl : b < w.heap.size := block_lt_of_cell (h.out 0 (by omega))
  obtain ⟨B, hB⟩ : ∃ B, w.heap.size = B := ⟨_, rfl⟩
  have HF : Hid (FR w ((w.alloc (.cells ZR 120)).alloc (.cells OR 120)) B OR) := by
    subst hB
    have hz : (w.alloc (.cells ZR 120)).heap.size = w.heap.size + 1 := Array.size_push ..
    refine ⟨((Below.refl _ _).alloc (Nat.le_refl _) _).alloc (by rw [hz]; exact Nat.le_succ _) _, ?_, heap_two _ _ _, rfl⟩
    rw [Below.heap_alloc _ _ _ (by rw [hz]; exact Nat.lt_succ_self _)]
    exact heap_alloc_new w _
  rw [hB] at hst hbl ⊢
  go_enter Tryz.func69, Tryz.ntmps69
  go_wp2_with (first
    | (refine wl_alloc rfl rfl ?_)
    | (refine wl_build rfl rfl ?_))
  obtain ⟨w0, hw0⟩ : ∃ w0, (w.alloc (.cells ZR 120)).alloc (.cells OR 120) = w0 := ⟨_, rfl⟩
  rw [hw0] at HF
  go_loopw [6] (fun i wr => ∃ (k : Nat) (C : Array Value), k ≤ 32 ∧ i = .int .i64 k ∧ Hid (FR w wr B C) ∧ Hid (Upto C (n + 1) k)) (fun i _ => 32 - (intOf i).toNat)
  case atStart => exact ⟨0, OR, by omega, rfl, by rw [hw0]; exact HF, Upto.one _ (by omega)⟩
  case round =>
    obtain ⟨k, C, hk, rfl, HR, HU⟩ := hrel
    by_cases hlt : k < 32
    · have hlt' : (k : Int) < 32 := by omega
      have c1 : wr.cell? ⟨b, n * 33 + (k + 1), none⟩ = some (.int .u64 (vv n (k + 1) : Nat)) := by rw [HR.out.low.cell hbl]; exact h.out (k + 1) (by omega)
      have c2 : wr.cell? ⟨b, n * 33 + k, none⟩ = some (.int .u64 (vv n k : Nat)) := by rw [HR.out.low.cell hbl]; exact h.out k (by omega)
      have c3 := HR.out.cell (HU.out k (Nat.le_refl _))
      obtain ⟨v4, c4⟩ := HR.out.val (j := k + 1) (by omega)
      have fz := HR.out.fz
      have hs := vv_sum (n := n) (k := k) hn (by omega)
      have hb := vv_bd (n := n + 1) (k := k + 1) (by omega) (by omega)
      have b1 := vv_bd (n := n) (k := k + 1) (by omega) (by omega)
      have b2 := vv_bd (n := n + 1) (k := k) (by omega) (by omega)
      have HU2 : Hid (Upto (C.setIfInBounds (k + 1) (.int .u64 (vv (n + 1) (k + 1) : Nat))) (n + 1) (k + 1)) := HU.out.set HR.out.size hlt
      have HR2 : Hid _ := HR.out.set (k + 1) (.int .u64 (vv (n + 1) (k + 1) : Nat))
      generalize vv (n + 1) (k + 1) = Y at *
      generalize vv n (k + 1) = X1 at *
      generalize vv n k = X2 at *
      generalize vv (n + 1) k = X3 at *
      have HS : Hid ((X1 : Int) + X3 + X2 = Y) := by show _ = _; omega
      have hs2 : (X1 : Int) + X3 + X2 ≤ 2460955893981184 := by omega
      go_wp2
      go_region
      rw [HS.out]
      replace HR2 : Hid (FR w (wr.setCell ⟨B + 1, k + 1, none⟩ (.int .u64 (Y : Nat))).drew B (C.setIfInBounds (k + 1) (.int .u64 (Y : Nat)))) := HR2.out.drewN 1
      go_wp2
      go_roundw
      case rel => exact ⟨k + 1, _, by omega, by go_num, by rw [HS.out]; exact HR2, HU2⟩
      case measure => simp [intOf]; omega
    · obtain rfl : k = 32 := by omega
      obtain rfl := HU.out.all HR.out.size
      have HZ : ZR.size = (vrow (n + 1)).toArray.size := by rw [ZR_size]; simp [vrow_len]
      have hld2 := load33 wr (B + 1) (vrow (n + 1)).toArray 120 (0, 0) HR.out.row (by simp [vrow_len])
      have hst2 := store33 wr B (vrow (n + 1)).toArray ZR HR.out.res HZ (by simp [vrow_len]) (all_oneCell_toArray (vrow_one _))
      have HL := run_loadVar_row (P := Tryz.prog) (wr.setRow B (vrow (n + 1)).toArray) B 120 120 (vrow (n + 1)).toArray (0, 0) _ (setRow_heap _ _ _ _ _ _ HR.out.res) row_under rfl (by simp [vrow_len, row_info])
      go_wp2_with (refine wl_load rfl _ rfl (B + 1) (vrow (n + 1)).toArray rfl HR.out.row (by simp [vrow_len]) ?_)
      refine bodyPost_ret (results_cell_row rfl _ _ B 120 (vrow (n + 1)).toArray (0, 0) _ rfl (setRow_heap _ _ _ _ _ _ HR.out.res) row_under rfl (by simp [vrow_len, row_info])) rfl ⟨rfl, ?_⟩
      exact below_setRow HR.out.low (Nat.le_refl _) _
end Go.Proofs.YtfgpmdikkncckaaGreatDoor
