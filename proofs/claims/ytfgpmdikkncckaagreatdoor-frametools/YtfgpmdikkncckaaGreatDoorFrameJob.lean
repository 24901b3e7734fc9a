/-
  Where a job of a reader lies: its frame, its mode, its reader, its tools; and what a job does of a silent frame. No condition.
-/
import Derived.Test.YtfgpmdikkncckaaGreatDoorFrameRow
import Derived.Test.YtfgpmdikkncckaaGreatDoorModeWide
import Derived.Test.YtfgpmdikkncckaaGreatDoorMrgS
namespace Go.Proofs.YtfgpmdikkncckaaGreatDoor
set_option linter.unusedVariables false
set_option maxRecDepth 100000
open Go.ChangeShapes Go.WideShapes Go.ChangeAt Go.RowKit

/-- A job's cells. -/
def jobC (F : Array Value) (s c : Int) (u v : Value) : Array Value := F ++ #[.int .i64 s, .int .i64 c, u, v]
section
variable {F : Array Value} {s c : Int} {u v : Value}
theorem jobC_size (h : F.size = 94) : (jobC F s c u v).size = 98 := by simp [jobC, h]
theorem jobC_lo (h : F.size = 94) {k : Nat} (hk : k < 94) : (jobC F s c u v)[k]? = F[k]? := by
  unfold jobC; rw [Array.getElem?_append_left (by omega)]
theorem jobC_hi (h : F.size = 94) (k : Nat) : (jobC F s c u v)[94 + k]? = (#[.int .i64 s, .int .i64 c, u, v] : Array Value)[k]? := by
  unfold jobC; rw [Array.getElem?_append_right (by omega), show 94 + k - F.size = k by omega]
theorem jobC_set (h : F.size = 94) {k : Nat} (hk : k < 94) (x : Value) : (jobC F s c u v).setIfInBounds k x = jobC (F.setIfInBounds k x) s c u v := by
  unfold jobC
  apply Array.ext_getElem?
  intro j
  rw [Array.getElem?_setIfInBounds]
  by_cases hj : j < 94
  · rw [Array.getElem?_append_left (by omega), Array.getElem?_append_left (by simp [h, hj]), Array.getElem?_setIfInBounds]
    by_cases e : k = j
    · subst e; simp [h, hk]; omega
    · simp [e]
  · rw [if_neg (by omega), Array.getElem?_append_right (by omega), Array.getElem?_append_right (by simp; omega)]
    simp
end
theorem job_build (w : World) (s c : Int) (p : Option Addr) (t : TypeId) (v : Value) : Sem.run Tryz.prog (Instr.build 73 #[(1, .agg #[.int .i64 s, .int .i64 c]), (2, .pointer p), (3, .iface t v)]) w = .ok (.agg (jobC ZF s c (.pointer p) (.iface t v))) w := by kernel_rfl

/-- A job lies at block b. -/
structure JB (w : World) (b : Nat) (F : Array Value) (s c : Int) (u v : Value) : Prop where
  row : w.heap[b]? = some (.cells (jobC F s c u v) 73 (0, 0))
  size : F.size = 94
section
variable {w w' : World} {b : Nat} {F : Array Value} {s c : Int} {u v : Value}
theorem JB.lt (h : JB w b F s c u v) : b < w.heap.size := lt_size_of_block h.row
theorem JB.cell (h : JB w b F s c u v) {k : Nat} (hk : k < 94) {x : Value} (hx : F[k]? = some x) : w.cell? ⟨b, k, none⟩ = some x := by
  rw [cell_of_row _ _ k _ _ _ h.row, jobC_lo h.size hk]; exact hx
theorem JB.val (h : JB w b F s c u v) {k : Nat} (hk : k < 94) : ∃ x, w.cell? ⟨b, k, none⟩ = some x := ⟨F[k]'(by rw [h.size]; exact hk), h.cell hk (by simp)⟩
theorem JB.cs (h : JB w b F s c u v) : w.cell? ⟨b, 94, none⟩ = some (.int .i64 s) := by rw [cell_of_row _ _ _ _ _ _ h.row]; exact jobC_hi h.size 0
theorem JB.cc (h : JB w b F s c u v) : w.cell? ⟨b, 95, none⟩ = some (.int .i64 c) := by rw [cell_of_row _ _ _ _ _ _ h.row]; exact jobC_hi h.size 1
theorem JB.cu (h : JB w b F s c u v) : w.cell? ⟨b, 96, none⟩ = some u := by rw [cell_of_row _ _ _ _ _ _ h.row]; exact jobC_hi h.size 2
theorem JB.cv (h : JB w b F s c u v) : w.cell? ⟨b, 97, none⟩ = some v := by rw [cell_of_row _ _ _ _ _ _ h.row]; exact jobC_hi h.size 3
theorem JB.fz (h : JB w b F s c u v) (o : Nat) : w.frozen? ⟨b, o, none⟩ = false := frozen_of_row _ _ o _ _ h.row
theorem JB.kept {q : Option Nat} (h : JB w b F s c u v) (hg : w.grownBy w' q) (hq : some b ≠ q) : JB w' b F s c u v := ⟨(hg.block b h.lt hq).trans h.row, h.size⟩
theorem JB.set (h : JB w b F s c u v) {k : Nat} (hk : k < 94) (x : Value) : JB (w.setCell ⟨b, k, none⟩ x) b (F.setIfInBounds k x) s c u v :=
  ⟨by rw [← jobC_set h.size hk]; exact heap_setCell_same _ _ _ _ _ _ h.row, by simp [h.size]⟩
theorem JB.range (h : JB w b F s c u v) : w.rangeAt b 0 F.toList := fun j x hx => by
  have hj : j < 94 := by
    have := (List.getElem?_eq_some_iff.1 hx).1
    rw [Array.length_toList, h.size] at this; exact this
  rw [Nat.zero_add]
  exact h.cell hj (by rw [← hx]; simp)
end
section
variable {ops : Array Oper} {rest : List Oper} {o : Oper} {a : Act} {w : World} {Q : Exit → Act → World → Prop}
theorem wl_buildJ (hw : Region.wanted o (yielded ops a.tmps) = true) (x y z : Operand) (ho : o.op = .build 73 #[(1, x), (2, y), (3, z)]) (s c : Int) (p : Option Addr) (t : TypeId) (v : Value) (hx : a.eval x = .agg #[.int .i64 s, .int .i64 c]) (hy : a.eval y = .pointer p) (hz : a.eval z = .iface t v)
    (h : wpList Tryz.prog ops Q rest (a.put o.dst (.agg (jobC ZF s c (.pointer p) (.iface t v)))) w) : wpList Tryz.prog ops Q (o :: rest) a w := by
  refine wl_want hw _ w ?_ h
  unfold execOp
  have e : ((#[(1, x), (2, y), (3, z)] : Array (Nat × Operand)).map fun (i, x) => (i, a.eval x)) = #[(1, .agg #[.int .i64 s, .int .i64 c]), (2, .pointer p), (3, .iface t v)] := by simp [hx, hy, hz]
  simp only [ho, e, Sem.run_bind, job_build, Result.andThen_ok, Sem.run_pure]
/-- A job's frame is read. -/
theorem wl_loadJ (hw : Region.wanted o (yielded ops a.tmps) = true) (x : Operand) (ho : o.op = .load 37 x) (b : Nat) (F : Array Value) (s c : Int) (u v : Value) (hx : a.eval x = .pointer (some ⟨b, 0, none⟩)) (hb : JB w b F s c u v)
    (h : wpList Tryz.prog ops Q rest (a.put o.dst (.agg F)) w) : wpList Tryz.prog ops Q (o :: rest) a w := by
  refine wl_want hw _ w ?_ h
  unfold execOp
  simp only [ho, hx, Instr.loadAt, Instr.sureAddr, Sem.run_bind, Sem.run_pure, Result.andThen_ok, run_loadVar_mid w b 0 37 F.toList _ hb.range Tryz.underlying37 rfl (by rw [Array.length_toList, hb.size]; exact fr_info), Array.toArray_toList]
end

/-- Where a job and its reader lie, one block more (at rb), and what lay below before. -/
structure JR (w0 w : World) (lo hi br n : Nat) (p : Nat → Int) (m : Re) (jb : Nat) (F : Array Value) (s c : Int) (v : Value) (rb : Nat) (ro : Obj) : Prop where
  rd : RdAt w lo hi br n p m
  job : JB w jb F s c (.pointer (some ⟨br, 0, none⟩)) v
  low : Below w0.heap.size w0 w
  b0 : w0.heap.size ≤ br
  j0 : hi ≤ jb
  rs : w.heap[rb]? = some ro
  r0 : hi ≤ rb
  r1 : rb ≠ jb
section
variable {w0 w w' : World} {lo hi br n : Nat} {p : Nat → Int} {m m' : Re} {jb rb : Nat} {F : Array Value} {s c : Int} {v : Value} {ro : Obj}
theorem JR.took (h : JR w0 w lo hi br n p m jb F s c v rb ro) (hr : RdAt w' lo hi br n p m') (hg : w.grownBy w' (some br)) : JR w0 w' lo hi br n p m' jb F s c v rb ro :=
  ⟨hr, h.job.kept hg (by intro e; cases e; have := h.rd.lt; have := h.j0; omega), below_grown h.low hg h.b0 h.low.size, h.b0, h.j0, (hg.block rb (lt_size_of_block h.rs) (by intro e; cases e; have := h.rd.lt; have := h.r0; omega)).trans h.rs, h.r0, h.r1⟩
theorem JR.keep (h : JR w0 w lo hi br n p m jb F s c v rb ro) (hg : w.grownBy w' none) : JR w0 w' lo hi br n p m jb F s c v rb ro :=
  ⟨h.rd.keep hg, h.job.kept hg (by simp), h.low.grown hg h.low.size (fun q e => by cases e), h.b0, h.j0, (hg.block rb (lt_size_of_block h.rs) (by simp)).trans h.rs, h.r0, h.r1⟩
theorem JR.set (h : JR w0 w lo hi br n p m jb F s c v rb ro) {k : Nat} (hk : k < 94) (x : Value) : JR w0 (w.setCell ⟨jb, k, none⟩ x) lo hi br n p m jb (F.setIfInBounds k x) s c v rb ro :=
  ⟨h.rd.kept (grown_setb w jb k x) (by intro q e; cases e; exact .inr h.j0), h.job.set hk x, h.low.setCell (p := ⟨jb, k, none⟩) (by have := h.rd.lt; have := h.j0; have := h.b0; show w0.heap.size ≤ jb; omega) x, h.b0, h.j0, (heap_setCell_other w ⟨jb, k, none⟩ rb x h.r1).trans h.rs, h.r0, h.r1⟩
end

theorem sp_32 : Sp 32 32 0 := ⟨by decide, by decide, by decide, by decide, by decide, by decide, by decide⟩
theorem ui_one : uintA 1 32 = .tuple #[.int .i64 1, .bool true] := by unfold uintA; simp

set_option maxHeartbeats 2000000 in
/-- The first number is 1. -/
theorem jfirst_one (w0 w : World) (lo hi br n : Nat) (p : Nat → Int) (m : Re) (jb : Nat) (s c : Int) (v : Value) (rb : Nat) (ro : Obj) (hn : n ≤ 100000) (hk : m.tk ≤ 800000) (hl : m.nb ≤ 700000) (hp : Hid (Bx n p)) (hg : Hid m.Good) (hV : Hid (m.numV n p 32 0 = 1)) (h : Hid (JR w0 w lo hi br n p m jb ZF s c v rb ro)) :
    Calls Tryz.prog 57 #[.pointer (some ⟨jb, 0, none⟩)] w fun e w' => e = .returned (.bool true) ∧ JR w0 w' lo hi br n p (m.num p 32 0) jb SF s c v rb ro := by
  have c6 := h.out.job.cu
  have HS : Hid (Sp 32 32 0) := sp_32
  go_enter Tryz.func57, Tryz.ntmps57
  go_upto_region 2 with (go_at_call 83; refine (uint_rd _ lo hi br n p m 32 32 0 hn hk hl hp hg HS h.out.rd).mono ?_; rw [hV.out, ui_one]; rintro e w1 ⟨rfl, hr1, hg1⟩; have H1 : Hid (JR w0 w1 lo hi br n p (m.num p 32 0) jb ZF s c v rb ro) := h.out.took hr1 hg1; clear hr1 hg1 c6)
  have c6 := H1.out.job.cu
  obtain ⟨x0, c0⟩ := H1.out.job.val (k := 0) (by omega)
  obtain ⟨x1, c1⟩ := H1.out.job.val (k := 1) (by omega)
  obtain ⟨x2, c2⟩ := H1.out.job.val (k := 2) (by omega)
  have f0 := H1.out.job.fz 0
  have f1 := H1.out.job.fz 1
  have f2 := H1.out.job.fz 2
  have H4 : Hid (JR w0 (((w1.setCell ⟨jb, 0, none⟩ (.bool true)).setCell ⟨jb, 1, none⟩ (.bool false)).setCell ⟨jb, 2, none⟩ (.int .i64 0)) lo hi br n p (m.num p 32 0) jb SF s c v rb ro) := ((H1.out.set (k := 0) (by omega) _).set (k := 1) (by omega) _).set (k := 2) (by omega) _
  go_wp2
  go_returns
  exact ⟨rfl, H4.out⟩

set_option maxHeartbeats 2000000 in
/-- A silent frame's job. -/
theorem jread_one (w0 w : World) (lo hi br n : Nat) (p : Nat → Int) (m : Re) (jb : Nat) (s c : Int) (v : Value) (rb : Nat) (ro : Obj) (P : Nat → Int) (hn : n ≤ 100000) (hk : m.tk ≤ 800000) (hl : m.nb ≤ 700000) (hp : Hid (Bx n p)) (hg : Hid m.Good) (hV : Hid (m.numV n p 32 0 = 1)) (h : Hid (JR w0 w lo hi br n p m jb ZF s c v rb ro)) :
    Calls Tryz.prog 31 #[.pointer (some ⟨jb, 0, none⟩), .agg (row10 P)] w fun e w' => e = .returned (.tuple #[.int .u32 (m.num p 32 0).rng, .bool true]) ∧ JR w0 w' lo hi br n p (m.num p 32 0) jb SF s c v rb ro := by
  have HA : Hid (JR w0 (w.alloc (.cells (row10 P) 32)) lo hi br n p m jb ZF s c v rb ro) := h.out.keep (World.grownBy_alloc w _ none)
  go_enter Tryz.func31, Tryz.ntmps31
  go_upto_region 3 with (go_at_call 57; refine (jfirst_one w0 _ lo hi br n p m jb s c v rb ro hn hk hl hp hg hV HA).mono ?_; rintro e w1 ⟨rfl, H1⟩; replace H1 : Hid (JR w0 w1 lo hi br n p (m.num p 32 0) jb SF s c v rb ro) := H1)
  have c0 : w1.cell? ⟨jb, 0, none⟩ = some (.bool true) := H1.out.job.cell (by omega) rfl
  have c6 := H1.out.job.cu
  go_wp2_with (go_at_call 126; refine (rdrng _ lo hi br n p _ H1.out.rd).mono ?_; rintro e w2 ⟨rfl, hw⟩; obtain rfl := hw.symm; clear hw)
  go_returns
  exact ⟨rfl, H1.out⟩
end Go.Proofs.YtfgpmdikkncckaaGreatDoor
