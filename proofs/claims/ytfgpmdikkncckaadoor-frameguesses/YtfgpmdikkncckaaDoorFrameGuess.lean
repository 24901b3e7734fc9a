/-
  What Guess of a frame and of the document, and Fines of both, answer. Nothing that was there is turned.
-/
import Derived.Test.YtfgpmdikkncckaaDoorFrameRow
import Derived.Test.YtfgpmdikkncckaaDoorModeWide
namespace Go.Proofs.YtfgpmdikkncckaaDoor
set_option linter.unusedVariables false
set_option linter.unusedSimpArgs false
set_option maxRecDepth 100000
open Go.ChangeShapes Go.WideShapes Go.ChangeAt Go.RowKit

/-- A frame that has Intra and energies alone. -/
def gF (i : Bool) (f : Nat → Int) : Array Value := (.bool false :: .bool i :: .int .i64 0 :: .int .i64 0 :: .int .i64 0 :: ((row10 f).toList ++ List.replicate 79 (.int .i64 0))).toArray
theorem gF_size (i : Bool) (f : Nat → Int) : (gF i f).size = 94 := rfl
theorem gF_one (i : Bool) (f : Nat → Int) : (gF i f).all (·.oneCell') = true := by kernel_rfl
theorem gF_i (i : Bool) (f : Nat → Int) : (gF i f)[1]? = some (.bool i) := rfl
theorem gF_e (i : Bool) (f : Nat → Int) {j : Nat} (h : j < 10) : (gF i f)[5 + j]? = some (.int .i64 (f j)) := by
  match j, h with
  | 0, _ | 1, _ | 2, _ | 3, _ | 4, _ | 5, _ | 6, _ | 7, _ | 8, _ | 9, _ => rfl

/-- What is guessed. -/
def gV (i : Bool) (f P : Nat → Int) (ch band : Int) : Int := if ch < 0 ∨ 2 ≤ ch ∨ band < 0 ∨ 5 ≤ band then 0 else if i = false then P (ch.toNat * 5 + band.toNat) else if band = 0 then 8 else f (ch.toNat * 5 + band.toNat - 1)
/-- How many fine bits. -/
def fnV (l c : Int) : Int := if l ≤ 0 ∨ c < 1 then 0 else if 3 < (l.tdiv 64).tdiv c then 3 else (l.tdiv 64).tdiv c

theorem gcells {w : World} {i : Bool} {f P : Nat → Int} {t : TypeId} :
    let W := (w.alloc (.cells (gF i f) t)).alloc (.cells (row10 P) 30)
    W.cell? ⟨w.heap.size, 1, none⟩ = some (.bool i) ∧ (∀ j, j < 10 → W.cell? ⟨w.heap.size, 5 + j, none⟩ = some (.int .i64 (f j))) ∧ (∀ j, j < 10 → W.cell? ⟨w.heap.size + 1, j, none⟩ = some (.int .i64 (P j))) ∧ Below w.heap.size w W := by
  refine ⟨?_, fun j hj => ?_, fun j hj => ?_, gN_below (gN_alloc (gN_alloc (gN_refl w) _) _)⟩
  · rw [cell_of_row _ _ _ _ _ _ (heap_oneF w _ _)]; exact gF_i i f
  · rw [cell_of_row _ _ _ _ _ _ (heap_oneF w _ _)]; exact gF_e i f hj
  · rw [cell_of_row _ _ _ _ _ _ (heap_two w _ _)]; exact row10_at P hj

set_option maxHeartbeats 4000000 in
theorem guess_any (w : World) (i : Bool) (f P : Nat → Int) (ch band : Int) :
    Calls Tryd.prog 9 #[.agg (gF i f), .agg (row10 P), .int .i64 ch, .int .i64 band] w fun e w' => e = .returned (.int .i64 (gV i f P ch band)) ∧ Below w.heap.size w w' := by
  obtain ⟨g1, g2, g3, g4⟩ := gcells (w := w) (i := i) (f := f) (P := P) (t := 35)
  have HB : Hid _ := g4
  clear g4
  have h : ch < 0 ∨ (0 ≤ ch ∧ 2 ≤ ch) ∨ (0 ≤ ch ∧ ch < 2 ∧ band < 0) ∨ (0 ≤ ch ∧ ch < 2 ∧ 0 ≤ band ∧ 5 ≤ band) ∨ ((ch = 0 ∨ ch = 1) ∧ (band = 0 ∨ band = 1 ∨ band = 2 ∨ band = 3 ∨ band = 4)) := by omega
  rcases h with h | h | h | h | h
  case inr.inr.inr.inr =>
    have d0 := g2 0 (by omega)
    have d1 := g2 1 (by omega)
    have d2 := g2 2 (by omega)
    have d3 := g2 3 (by omega)
    have d4 := g2 4 (by omega)
    have d5 := g2 5 (by omega)
    have d6 := g2 6 (by omega)
    have d7 := g2 7 (by omega)
    have d8 := g2 8 (by omega)
    have p0 := g3 0 (by omega)
    have p1 := g3 1 (by omega)
    have p2 := g3 2 (by omega)
    have p3 := g3 3 (by omega)
    have p4 := g3 4 (by omega)
    have p5 := g3 5 (by omega)
    have p6 := g3 6 (by omega)
    have p7 := g3 7 (by omega)
    have p8 := g3 8 (by omega)
    have p9 := g3 9 (by omega)
    clear g2 g3
    simp only [Nat.reduceAdd] at d0 d1 d2 d3 d4 d5 d6 d7 d8
    rcases h with ⟨rfl | rfl, rfl | rfl | rfl | rfl | rfl⟩ <;> cases i
    all_goals
      go_enter Tryd.func9, Tryd.ntmps9
      go_wp2
      go_ret
      exact ⟨rfl, HB.out⟩
  all_goals
    clear g1 g2 g3
    have hv : gV i f P ch band = 0 := by unfold gV; rw [if_pos (by omega)]
    rw [hv]
    clear hv
    go_enter Tryd.func9, Tryd.ntmps9
    go_wp2
    go_ret
    exact ⟨rfl, HB.out⟩

set_option maxHeartbeats 4000000 in
theorem rguess_any (w : World) (i : Bool) (f P : Nat → Int) (ch band : Int) (hc : 0 ≤ ch ∧ ch < 2) (hb : 0 ≤ band ∧ band < 5) :
    Calls Tryd.prog 7 #[.agg (gF i f), .agg (row10 P), .int .i64 ch, .int .i64 band] w fun e w' => e = .returned (.int .i64 (gV i f P ch band)) ∧ Below w.heap.size w w' := by
  obtain ⟨g1, g2, g3, g4⟩ := gcells (w := w) (i := i) (f := f) (P := P) (t := 37)
  have HB : Hid _ := g4
  clear g4
  have h : ((ch = 0 ∨ ch = 1) ∧ (band = 0 ∨ band = 1 ∨ band = 2 ∨ band = 3 ∨ band = 4)) := by omega
  clear hc hb
  have d0 := g2 0 (by omega)
  have d1 := g2 1 (by omega)
  have d2 := g2 2 (by omega)
  have d3 := g2 3 (by omega)
  have d4 := g2 4 (by omega)
  have d5 := g2 5 (by omega)
  have d6 := g2 6 (by omega)
  have d7 := g2 7 (by omega)
  have d8 := g2 8 (by omega)
  have p0 := g3 0 (by omega)
  have p1 := g3 1 (by omega)
  have p2 := g3 2 (by omega)
  have p3 := g3 3 (by omega)
  have p4 := g3 4 (by omega)
  have p5 := g3 5 (by omega)
  have p6 := g3 6 (by omega)
  have p7 := g3 7 (by omega)
  have p8 := g3 8 (by omega)
  have p9 := g3 9 (by omega)
  clear g2 g3
  simp only [Nat.reduceAdd] at d0 d1 d2 d3 d4 d5 d6 d7 d8
  rcases h with ⟨rfl | rfl, rfl | rfl | rfl | rfl | rfl⟩ <;> cases i
  all_goals
    go_enter Tryd.func7, Tryd.ntmps7
    go_wp2
    go_ret
    exact ⟨rfl, HB.out⟩

theorem rf_info : (Tryd.prog.info? 37).map (·.size) = some 94 := by kernel_rfl
theorem rf_alloc (w : World) : Sem.run Tryd.prog (Instr.alloc 37 true (.tuple #[])) w = .ok (.pointer (some ⟨w.heap.size, 0, none⟩)) (w.alloc (.cells ZF 37)) := by kernel_rfl
section
variable {ops : Array Oper} {rest : List Oper} {o : Oper} {a : Act} {w : World} {Q : Exit → Act → World → Prop}
theorem wl_allocRF (hw : Region.wanted o (yielded ops a.tmps) = true) (ho : o.op = .alloc 37) (h : wpList Tryd.prog ops Q rest (a.put o.dst (.pointer (some ⟨w.heap.size, 0, none⟩))) (w.alloc (.cells ZF 37))) : wpList Tryd.prog ops Q (o :: rest) a w := by
  refine wl_want hw _ _ ?_ h
  unfold execOp
  simp only [ho, Sem.run_bind, rf_alloc, Result.andThen_ok, Sem.run_pure]
end
theorem store94r (w : World) (g : Nat) (C D : Array Value) (hb : w.heap[g]? = some (.cells D 37 (0, 0))) (hD : D.size = 94) (hC : C.size = 94) (h1 : C.all (·.oneCell') = true) :
    Sem.run Tryd.prog (storeCells ⟨g, 0, none⟩ C.toList) w = .ok () (w.setRow g C) := by
  have := run_storeVar_row (P := Tryd.prog) w g 37 37 D C hb (by rw [hC]; exact rf_info) (by omega) h1
  cases hq : Tryd.prog.info? 37 with
  | none => have := rf_info; rw [hq] at this; cases this
  | some i =>
    have hs : C.size = i.size := by have := rf_info; rw [hq] at this; simp at this; omega
    simpa [storeVar, sizeOf, typeInfo, hq, Value.cells, hs] using this
set_option maxHeartbeats 1000000 in
theorem plainF_any (w : World) (C : Array Value) (hC : Hid (C.size = 94)) (h1 : Hid (C.all (·.oneCell') = true)) :
    Calls Tryd.prog 8 #[.agg C] w fun e w' => e = .returned (.agg C) ∧ Below w.heap.size w w' := by
  have H0 : Hid (((w.alloc (.cells C 35)).alloc (.cells ZF 37)).heap[w.heap.size]? = some (.cells C 35 (0, 0))) := heap_oneF w _ _
  have H1 : Hid (((w.alloc (.cells C 35)).alloc (.cells ZF 37)).heap[w.heap.size + 1]? = some (.cells ZF 37 (0, 0))) := heap_two w _ _
  have HB : Hid (Below w.heap.size w ((w.alloc (.cells C 35)).alloc (.cells ZF 37))) := gN_below (gN_alloc (gN_alloc (gN_refl w) _) _)
  have hst := store94r ((w.alloc (.cells C 35)).alloc (.cells ZF 37)) (w.heap.size + 1) C ZF H1.out rfl hC.out h1.out
  go_enter Tryd.func8, Tryd.ntmps8
  go_wp2_with (first
    | (refine wl_allocRF rfl rfl ?_)
    | (refine wl_loadF rfl _ rfl w.heap.size C rfl H0.out hC.out ?_))
  refine bodyPost_ret (results_cell_row rfl _ _ (w.heap.size + 1) 37 C (0, 0) _ rfl (setRowF_heap H1.out) Tryd.underlying37 rfl (by rw [hC.out]; exact rf_info)) rfl ⟨rfl, ?_⟩
  exact below_setRow HB.out (by omega) _

theorem fn_q {l c : Int} (hl : 0 < l) (hl2 : l ≤ 9223372036854775807) (hc : 1 ≤ c) : ∃ q u : Int, l.tdiv 64 = u ∧ 0 ≤ u ∧ u ≤ 9223372036854775807 ∧ u.tdiv c = q ∧ 0 ≤ q ∧ q ≤ 9223372036854775807 := by
  refine ⟨_, _, rfl, ?_, ?_, rfl, ?_, ?_⟩
  · exact Int.tdiv_nonneg (by omega) (by omega)
  · rw [Int.tdiv_eq_ediv_of_nonneg (by omega)]; omega
  · exact Int.tdiv_nonneg (Int.tdiv_nonneg (by omega) (by omega)) (by omega)
  · have h1 : l.tdiv 64 ≤ 9223372036854775807 := by rw [Int.tdiv_eq_ediv_of_nonneg (by omega)]; omega
    have h0 : 0 ≤ l.tdiv 64 := Int.tdiv_nonneg (by omega) (by omega)
    rw [Int.tdiv_eq_ediv_of_nonneg h0]
    exact Int.le_trans (Int.ediv_le_self _ h0) h1

theorem fines_any (w : World) (l c : Int) (hl : l ≤ 9223372036854775807) :
    Calls Tryd.prog 10 #[.int .i64 l, .int .i64 c] w fun e w' => e = .returned (.int .i64 (fnV l c)) ∧ w' = w := by
  by_cases h0 : l ≤ 0
  · have hv : fnV l c = 0 := by unfold fnV; rw [if_pos (by omega)]
    rw [hv]
    clear hv
    go_enter Tryd.func10, Tryd.ntmps10
    go_wp2
    go_ret
    exact ⟨rfl, rfl⟩
  · by_cases h1 : c < 1
    · have hv : fnV l c = 0 := by unfold fnV; rw [if_pos (by omega)]
      rw [hv]
      clear hv
      go_enter Tryd.func10, Tryd.ntmps10
      go_wp2
      go_ret
      exact ⟨rfl, rfl⟩
    · obtain ⟨q, u, e1, u0, u1, e2, q0, q1⟩ := fn_q (l := l) (c := c) (by omega) hl (by omega)
      have hv : fnV l c = if 3 < q then 3 else q := by unfold fnV; rw [if_neg (by omega), e1, e2]
      have HV : Hid (fnV l c = if 3 < q then 3 else q) := hv
      clear hv
      have c0 : ¬ c = 0 := by omega
      have hw1 : IntKind.i64.wrap u = u := by simp [IntKind.wrap, IntKind.bits, IntKind.signed]; omega
      have hw2 : IntKind.i64.wrap q = q := by simp [IntKind.wrap, IntKind.bits, IntKind.signed]; omega
      by_cases h3 : 3 < q
      · have h3' : ¬ q < 3 := by omega
        have h3'' : ¬ q ≤ 3 := by omega
        go_enter Tryd.func10, Tryd.ntmps10
        go_wp2
        go_ret
        exact ⟨by rw [HV.out, if_pos h3]; rfl, rfl⟩
      · have h3' : q ≤ 3 := by omega
        go_enter Tryd.func10, Tryd.ntmps10
        go_wp2
        go_ret
        exact ⟨by rw [HV.out, if_neg (by omega)]; rfl, rfl⟩

theorem rfines_any (w : World) (l c : Int) (hl : l ≤ 9223372036854775807) :
    Calls Tryd.prog 11 #[.int .i64 l, .int .i64 c] w fun e w' => e = .returned (.int .i64 (fnV l c)) ∧ w' = w := by
  by_cases h0 : l ≤ 0
  · have hv : fnV l c = 0 := by unfold fnV; rw [if_pos (by omega)]
    rw [hv]
    clear hv
    go_enter Tryd.func11, Tryd.ntmps11
    go_wp2
    go_ret
    exact ⟨rfl, rfl⟩
  · by_cases h1 : c < 1
    · have hv : fnV l c = 0 := by unfold fnV; rw [if_pos (by omega)]
      rw [hv]
      clear hv
      go_enter Tryd.func11, Tryd.ntmps11
      go_wp2
      go_ret
      exact ⟨rfl, rfl⟩
    · obtain ⟨q, u, e1, u0, u1, e2, q0, q1⟩ := fn_q (l := l) (c := c) (by omega) hl (by omega)
      have hv : fnV l c = if 3 < q then 3 else q := by unfold fnV; rw [if_neg (by omega), e1, e2]
      have HV : Hid (fnV l c = if 3 < q then 3 else q) := hv
      clear hv
      have c0 : ¬ c = 0 := by omega
      have hw1 : IntKind.i64.wrap u = u := by simp [IntKind.wrap, IntKind.bits, IntKind.signed]; omega
      have hw2 : IntKind.i64.wrap q = q := by simp [IntKind.wrap, IntKind.bits, IntKind.signed]; omega
      by_cases h3 : 3 < q
      · go_enter Tryd.func11, Tryd.ntmps11
        go_wp2
        go_ret
        exact ⟨by rw [HV.out, if_pos h3]; rfl, rfl⟩
      · go_enter Tryd.func11, Tryd.ntmps11
        go_wp2
        go_ret
        exact ⟨by rw [HV.out, if_neg (by omega)]; rfl, rfl⟩
end Go.Proofs.YtfgpmdikkncckaaDoor
