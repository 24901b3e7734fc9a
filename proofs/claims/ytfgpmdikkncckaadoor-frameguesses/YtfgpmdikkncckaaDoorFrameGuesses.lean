/-
  The law FrameGuesses of layer 16 (frame) as a walk: called at any input it returns true, and nothing that was there has turned.
-/
import Derived.Test.YtfgpmdikkncckaaDoorFrameAwake
import Derived.Test.YtfgpmdikkncckaaDoorFrameNrg
import Derived.Test.YtfgpmdikkncckaaDoorFrameGuess
import Derived.Lib.QuietBelow
namespace Go.Proofs.YtfgpmdikkncckaaDoor
set_option linter.unusedVariables false
set_option linter.unusedSimpArgs false
set_option maxRecDepth 100000
open Go.ChangeShapes Go.WideShapes Go.ChangeAt Go.RowKit
open Go.Sort (grow)

theorem ask_info2 : (Tryd.prog.info? 26).map (·.size) = some 13 := by kernel_rfl
theorem fr_buildG (w : World) (i : Bool) (f : Nat → Int) : Sem.run Tryd.prog (Instr.build 35 #[(1, .bool i), (5, .agg (row10 f))]) w = .ok (.agg (gF i f)) w := by kernel_rfl
theorem t25_alloc (w : World) : Sem.run Tryd.prog (Instr.alloc 30 true (.tuple #[])) w = .ok (.pointer (some ⟨w.heap.size, 0, none⟩)) (w.alloc (.cells (row10 (fun _ => 0)) 30)) := by kernel_rfl
theorem store10_new (w : World) (f : Nat → Int) : Sem.run Tryd.prog (storeCells ⟨w.heap.size, 0, none⟩ (row10 f).toList) (w.alloc (.cells (row10 (fun _ => 0)) 30)) = .ok () (w.alloc (.cells (row10 f) 30)) := by
  have := store10 (w.alloc (.cells (row10 (fun _ => 0)) 30)) w.heap.size (fun _ => 0) f (heap_alloc_new w _)
  rwa [World.setRow_alloc_new] at this
section
variable {ops : Array Oper} {rest : List Oper} {o : Oper} {a : Act} {w : World} {Q : Exit → Act → World → Prop}
/-- A whole ask is read. -/
theorem wl_loadA (hw : Region.wanted o (yielded ops a.tmps) = true) (x : Operand) (ho : o.op = .load 26 x) (b : Nat) (ao : Option Addr) (n cap : Nat) (s c : Int) (P : Nat → Int) (hx : a.eval x = .pointer (some ⟨b, 0, none⟩)) (hb : w.heap[b]? = some (.cells (askC ao n cap s c P) 26 (0, 0)))
    (h : wpList Tryd.prog ops Q rest (a.put o.dst (.agg (askC ao n cap s c P))) w) : wpList Tryd.prog ops Q (o :: rest) a w := by
  refine wl_want hw _ w ?_ h
  unfold execOp
  simp only [ho, hx, Instr.loadAt, Instr.sureAddr, Sem.run_bind, Sem.run_pure, Result.andThen_ok, run_loadVar_row w b 26 26 (askC ao n cap s c P) (0, 0) _ hb Tryd.underlying26 rfl ask_info2]
theorem wl_alloc10 (hw : Region.wanted o (yielded ops a.tmps) = true) (ho : o.op = .alloc 30) (h : wpList Tryd.prog ops Q rest (a.put o.dst (.pointer (some ⟨w.heap.size, 0, none⟩))) (w.alloc (.cells (row10 (fun _ => 0)) 30))) : wpList Tryd.prog ops Q (o :: rest) a w := by
  refine wl_want hw _ _ ?_ h
  unfold execOp
  simp only [ho, Sem.run_bind, t25_alloc, Result.andThen_ok, Sem.run_pure]
theorem wl_buildG (hw : Region.wanted o (yielded ops a.tmps) = true) (x y : Operand) (ho : o.op = .build 35 #[(1, x), (5, y)]) (i : Bool) (f : Nat → Int) (hx : a.eval x = .bool i) (hy : a.eval y = .agg (row10 f)) (h : wpList Tryd.prog ops Q rest (a.put o.dst (.agg (gF i f))) w) : wpList Tryd.prog ops Q (o :: rest) a w := by
  refine wl_want hw _ w ?_ h
  unfold execOp
  have e : ((#[(1, x), (5, y)] : Array (Nat × Operand)).map fun (i, x) => (i, a.eval x)) = #[(1, .bool i), (5, .agg (row10 f))] := by simp [hx, hy]
  simp only [ho, e, Sem.run_bind, fr_buildG, Result.andThen_ok, Sem.run_pure]
/-- The same in a region that draws its order and only reads and calls. -/
theorem quiet_loadF {K : Act → Prop} (x : Operand) (ho : o.op = .load 35 x) (b : Nat) (C : Array Value) (hx : a.eval x = .pointer (some ⟨b, 0, none⟩)) (hb : w.heap[b]? = some (.cells C 35 (0, 0))) (hC : C.size = 94) (a' : Act) (hp : a.put o.dst (.agg C) = a') (h : K a') :
    o.quiet Tryd.prog a (fun w' => ∃ p : Regrown, w' = grow (redrawn w p.d) p.os) K := by
  refine ⟨.agg C, ?_, by rw [hp]; exact h⟩
  rintro w' ⟨p, rfl⟩
  have hb' := ((below_regrown w p.d p.os).block b (lt_size_of_block hb)).trans hb
  unfold Oper.quietAt execOp
  simp only [ho, hx, Instr.loadAt, Instr.sureAddr, Sem.run_bind, Sem.run_pure, Result.andThen_ok, run_loadVar_row _ b 35 35 C (0, 0) _ hb' Tryd.underlying35 rfl (by rw [hC]; exact fr_info)]
  exact ⟨rfl, rfl⟩
theorem quiet_load10 {K : Act → Prop} (x : Operand) (ho : o.op = .load 30 x) (b : Nat) (f : Nat → Int) (hx : a.eval x = .pointer (some ⟨b, 0, none⟩)) (hb : w.heap[b]? = some (.cells (row10 f) 30 (0, 0))) (a' : Act) (hp : a.put o.dst (.agg (row10 f)) = a') (h : K a') :
    o.quiet Tryd.prog a (fun w' => ∃ p : Regrown, w' = grow (redrawn w p.d) p.os) K := by
  refine ⟨.agg (row10 f), ?_, by rw [hp]; exact h⟩
  rintro w' ⟨p, rfl⟩
  have hb' := ((below_regrown w p.d p.os).block b (lt_size_of_block hb)).trans hb
  unfold Oper.quietAt execOp
  simp only [ho, hx, Instr.loadAt, Instr.sureAddr, Sem.run_bind, Sem.run_pure, Result.andThen_ok, run_loadVar_row _ b 30 30 (row10 f) (0, 0) _ hb' Tryd.underlying30 rfl (by rw [row10_size]; exact t25_info)]
  exact ⟨rfl, rfl⟩
end

theorem guess_V {i : Bool} {F E : Nat → Int} {f0 f1 V : Int} (hV : Hid (gV i F E f0 f1 = V)) (w : World) : Calls Tryd.prog 9 #[.agg (gF i F), .agg (row10 E), .int .i64 f0, .int .i64 f1] w fun e w' => e = .returned (.int .i64 V) ∧ Below w.heap.size w w' := by
  rw [← hV.out]; exact guess_any _ _ _ _ _ _
theorem rguess_V {i : Bool} {F E : Nat → Int} {f0 f1 V : Int} (hV : Hid (gV i F E f0 f1 = V)) (h0 : 0 ≤ f0 ∧ f0 < 2) (h1 : 0 ≤ f1 ∧ f1 < 5) (w : World) : Calls Tryd.prog 7 #[.agg (gF i F), .agg (row10 E), .int .i64 f0, .int .i64 f1] w fun e w' => e = .returned (.int .i64 V) ∧ Below w.heap.size w w' := by
  rw [← hV.out]; exact rguess_any _ _ _ _ _ _ h0 h1
theorem fines_V (l c : Int) (hl : l ≤ 9223372036854775807) (w : World) : Calls Tryd.prog 10 #[.int .i64 l, .int .i64 c] w fun e w' => e = .returned (.int .i64 (fnV l c)) ∧ Below w.heap.size w w' :=
  (fines_any w l c hl).mono (by rintro e w' ⟨rfl, rfl⟩; exact ⟨rfl, Below.refl _ _⟩)
theorem rfines_V (l c : Int) (hl : l ≤ 9223372036854775807) (w : World) : Calls Tryd.prog 11 #[.int .i64 l, .int .i64 c] w fun e w' => e = .returned (.int .i64 (fnV l c)) ∧ Below w.heap.size w w' :=
  (rfines_any w l c hl).mono (by rintro e w' ⟨rfl, rfl⟩; exact ⟨rfl, Below.refl _ _⟩)

/-- Where the law has its numbers, its energies, its frame. -/
structure GX (w X : World) (f0 f1 f2 f3 : Int) (b g h : Nat) (i : Bool) (F E : Nat → Int) : Prop where
  four : X.heap[b]? = some (.cells #[.int .i64 f0, .int .i64 f1, .int .i64 f2, .int .i64 f3] 27 (0, 0))
  nrg : X.heap[g]? = some (.cells (row10 E) 30 (0, 0))
  fr : X.heap[h]? = some (.cells (gF i F) 35 (0, 0))
  low : Below w.heap.size w X
theorem GX.keep {w X X' : World} {f0 f1 f2 f3 : Int} {b g h : Nat} {i : Bool} {F E : Nat → Int} (H : GX w X f0 f1 f2 f3 b g h i F E) (hb : Below X.heap.size X X') : GX w X' f0 f1 f2 f3 b g h i F E :=
  ⟨(hb.block _ (lt_size_of_block H.four)).trans H.four, (hb.block _ (lt_size_of_block H.nrg)).trans H.nrg, (hb.block _ (lt_size_of_block H.fr)).trans H.fr, H.low.trans (hb.mono H.low.size)⟩

set_option maxHeartbeats 4000000 in
theorem guesses_law (w : World) (ao : Option Addr) (n cap : Nat) (s c : Int) (P : Nat → Int) (i : Bool) (f0 f1 f2 f3 : Int) (hP : Hid (∀ j, j < 10 → (Lit.int .u8 (P j)).wf = true)) (w2 : (Lit.int .i64 f2).wf = true) :
    Calls Tryd.prog 3 #[.agg (askC ao n cap s c P), .bool i, .agg #[.int .i64 f0, .int .i64 f1, .int .i64 f2, .int .i64 f3]] w fun e w' => e = .returned (.bool true) ∧ Below w.heap.size w w' := by
  have hf2 := (bounds_i64 w2).2
  clear w2
  obtain ⟨E, hE⟩ : ∃ E : Nat → Int, (fun j => P j % 32) = E := ⟨_, rfl⟩
  have HE : Hid ((fun j => P j % 32) = E) := hE
  clear hE
  obtain ⟨F, hF⟩ : ∃ F : Nat → Int, (fun j => E ((j + 5) % 10)) = F := ⟨_, rfl⟩
  have HF : Hid ((fun j => E ((j + 5) % 10)) = F) := hF
  clear hF
  have HA0 : Hid (((w.alloc (.cells (askC ao n cap s c P) 26)).alloc (.cells #[.int .i64 f0, .int .i64 f1, .int .i64 f2, .int .i64 f3] 27)).heap[w.heap.size]? = some (.cells (askC ao n cap s c P) 26 (0, 0)) ∧ ((w.alloc (.cells (askC ao n cap s c P) 26)).alloc (.cells #[.int .i64 f0, .int .i64 f1, .int .i64 f2, .int .i64 f3] 27)).heap[w.heap.size + 1]? = some (.cells #[.int .i64 f0, .int .i64 f1, .int .i64 f2, .int .i64 f3] 27 (0, 0)) ∧ Below w.heap.size w ((w.alloc (.cells (askC ao n cap s c P) 26)).alloc (.cells #[.int .i64 f0, .int .i64 f1, .int .i64 f2, .int .i64 f3] 27))) :=
    ⟨heap_oneF w _ _, heap_two w _ _, gN_below (gN_alloc (gN_alloc (gN_refl w) _) _)⟩
  go_enter Tryd.func3, Tryd.ntmps3
  go_wp2_with fail
  refine (awake16 _).mono ?_
  rintro e w1 ⟨rfl, hb1⟩
  have HA1 : Hid (w1.heap[w.heap.size]? = some (.cells (askC ao n cap s c P) 26 (0, 0)) ∧ w1.heap[w.heap.size + 1]? = some (.cells #[.int .i64 f0, .int .i64 f1, .int .i64 f2, .int .i64 f3] 27 (0, 0)) ∧ Below w.heap.size w w1) :=
    ⟨(hb1.block _ (lt_size_of_block HA0.out.1)).trans HA0.out.1, (hb1.block _ (lt_size_of_block HA0.out.2.1)).trans HA0.out.2.1, HA0.out.2.2.trans (hb1.mono HA0.out.2.2.size)⟩
  clear hb1 HA0
  go_wp2_with (refine wl_loadA rfl _ rfl w.heap.size ao n cap s c P rfl HA1.out.1 ?_)
  refine (energies_any _ _ _ _ _ _ _ hP).mono ?_
  rw [HE.out]
  rintro e w2 ⟨rfl, hb2⟩
  have H2 : Hid (w2.heap[w.heap.size + 1]? = some (.cells #[.int .i64 f0, .int .i64 f1, .int .i64 f2, .int .i64 f3] 27 (0, 0)) ∧ Below w.heap.size w w2) := ⟨(hb2.block _ (lt_size_of_block HA1.out.2.1)).trans HA1.out.2.1, HA1.out.2.2.trans (hb2.mono HA1.out.2.2.size)⟩
  clear hb2 HA1
  have hst := store10_new w2 E
  have cE : ∀ j, j < 10 → (w2.alloc (.cells (row10 E) 30)).cell? ⟨w2.heap.size, j, none⟩ = some (.int .i64 (E j)) := fun j hj => by rw [cell_of_row _ _ _ _ _ _ (heap_alloc_new w2 _)]; exact row10_at E hj
  have c0 := cE 0 (by omega)
  have c1 := cE 1 (by omega)
  have c2 := cE 2 (by omega)
  have c3 := cE 3 (by omega)
  have c4 := cE 4 (by omega)
  have c5 := cE 5 (by omega)
  have c6 := cE 6 (by omega)
  have c7 := cE 7 (by omega)
  have c8 := cE 8 (by omega)
  have c9 := cE 9 (by omega)
  clear cE
  have hst2 := store94_new (w2.alloc (.cells (row10 E) 30)) (gF i F) (gF_size _ _) (gF_one _ _)
  rw [show (w2.alloc (.cells (row10 E) 30)).heap.size = w2.heap.size + 1 from Array.size_push ..] at hst2
  have z1 : (row10 E).size = 10 := rfl
  have z2 : (gF i F).size = 94 := rfl
  have HX4 : Hid (GX w ((w2.alloc (.cells (row10 E) 30)).alloc (.cells (gF i F) 35)) f0 f1 f2 f3 (w.heap.size + 1) w2.heap.size (w2.heap.size + 1) i F E) :=
    ⟨by rw [heap_alloc_old _ _ (Nat.lt_trans (lt_size_of_block H2.out.1) (by simp)), heap_alloc_old _ _ (lt_size_of_block H2.out.1)]; exact H2.out.1, heap_oneF w2 _ _, heap_two w2 _ _, H2.out.2.trans ((gN_below (gN_alloc (gN_alloc (gN_refl w2) _) _)).mono H2.out.2.size)⟩
  go_upto_region 5 with (first
    | (refine wl_alloc10 rfl rfl ?_)
    | (refine wl_allocF rfl rfl ?_)
    | (refine wl_buildG rfl _ _ rfl i F rfl (by rw [← HF.out]; rfl) ?_))
  clear hst hst2 c0 c1 c2 c3 c4 c5 c6 c7 c8 c9 z1 z2 H2
  generalize (w2.alloc (.cells (row10 E) 30)).alloc (.cells (gF i F) 35) = w4 at HX4 ⊢
  generalize w2.heap.size + 1 = h at HX4 ⊢
  generalize w2.heap.size = g at HX4 ⊢
  generalize w.heap.size + 1 = b at HX4 ⊢
  have q0 : w4.cell? ⟨b, 0, none⟩ = some (.int .i64 f0) := row_cell HX4.out.four 0 rfl
  have q1 : w4.cell? ⟨b, 1, none⟩ = some (.int .i64 f1) := row_cell HX4.out.four 1 rfl
  have HX5 : Hid (GX w w4.drew f0 f1 f2 f3 b g h i F E) := HX4.out.keep ⟨rfl, rfl, rfl, Nat.le_refl _, fun _ _ => rfl⟩
  obtain ⟨V, hV⟩ : ∃ V, gV i F E f0 f1 = V := ⟨_, rfl⟩
  have HV : Hid (gV i F E f0 f1 = V) := hV
  clear hV
  go_wp2
  go_region
  generalize w4.drew = w5 at HX5 ⊢
  clear HX4 q0 q1
  have hc : (f0 < 0 ∨ (0 ≤ f0 ∧ 2 ≤ f0) ∨ (0 ≤ f0 ∧ f0 < 2 ∧ f1 < 0) ∨ (0 ≤ f0 ∧ f0 < 2 ∧ 0 ≤ f1 ∧ 5 ≤ f1)) ∨ (0 ≤ f0 ∧ f0 < 2 ∧ 0 ≤ f1 ∧ f1 < 5) := by omega
  rcases hc with (hc | ⟨hc1, hc2⟩ | ⟨hc1, hc2, hc3⟩ | ⟨hc1, hc2, hc3, hc4⟩) | ⟨h0, h1, h2, h3⟩
  case inr =>
    go_upto_region 8 with fail
    refine wp_region_quiet_below (by kernel_rfl) (by kernel_rfl) ?_
    repeat (first
      | go_big_quiet_skip
      | (go_big_quiet_want; first
        | (refine quiet_loadF _ rfl h (gF i F) rfl HX5.out.fr rfl _ rfl ?_; simp only [Act.put, List.setIfInBounds_toArray, List.set_cons_succ, List.set_cons_zero]; go_big_quiet_on)
        | (refine quiet_load10 _ rfl g E rfl HX5.out.nrg _ rfl ?_; simp only [Act.put, List.setIfInBounds_toArray, List.set_cons_succ, List.set_cons_zero]; go_big_quiet_on)
        | (go_big_quiet_op; first | go_big_quiet_on | go_big_quiet_call (first
          | (go_at_call 8; refine Calls.regrown_of (plainF_any _ _ (gF_size _ _) (gF_one _ _)))
          | (go_at_call 7; refine Calls.regrown_of (rguess_V HV ⟨h0, h1⟩ ⟨h2, h3⟩ _))))))
    refine wpQuiet_nil ?_
    intro _ hw'
    obtain ⟨⟨dq, osq⟩, hw''⟩ := hw'
    subst hw''
    have HX6 : Hid (GX w (grow (redrawn w5 dq) osq) f0 f1 f2 f3 b g h i F E) := HX5.out.keep (below_regrown w5 dq osq)
    generalize grow (redrawn w5 dq) osq = w6 at HX6 ⊢
    clear HX5 h0 h1 h2 h3
    go_upto_region 9 with fail
    have q2 : ∀ d os, (grow (redrawn _ d) os).cell? ⟨b, 2, none⟩ = some (.int .i64 f2) := fun d os => cell_regrown (row_cell HX6.out.four 2 rfl) d os
    have q3 : ∀ d os, (grow (redrawn _ d) os).cell? ⟨b, 3, none⟩ = some (.int .i64 f3) := fun d os => cell_regrown (row_cell HX6.out.four 3 rfl) d os
    refine wp_region_quiet_below (by kernel_rfl) (by kernel_rfl) ?_
    repeat (first
      | go_big_quiet_skip
      | (go_big_quiet_want; first
        | (refine quiet_loadF _ rfl h (gF i F) rfl HX6.out.fr rfl _ rfl ?_; simp only [Act.put, List.setIfInBounds_toArray, List.set_cons_succ, List.set_cons_zero]; go_big_quiet_on)
        | (refine quiet_load10 _ rfl g E rfl HX6.out.nrg _ rfl ?_; simp only [Act.put, List.setIfInBounds_toArray, List.set_cons_succ, List.set_cons_zero]; go_big_quiet_on)
        | (go_big_quiet_op; first | go_big_quiet_on | go_big_quiet_call (first
          | (go_at_call 9; refine Calls.regrown_of (guess_V HV _))
          | (go_at_call 10; refine Calls.regrown_of (fines_V _ _ hf2 _))
          | (go_at_call 11; refine Calls.regrown_of (rfines_V _ _ hf2 _))))))
    refine wpQuiet_nil ?_
    intro _ hw'
    obtain ⟨⟨dp, osp⟩, hw''⟩ := hw'
    subst hw''
    have HX7 : Hid (GX w (grow (redrawn _ dp) osp) f0 f1 f2 f3 b g h i F E) := HX6.out.keep (below_regrown _ dp osp)
    go_wp2
    go_returns
    exact ⟨rfl, HX7.out.low⟩
  all_goals
    obtain rfl : V = 0 := by rw [← HV.out]; unfold gV; rw [if_pos (by omega)]
    have HX6 := HX5
    go_upto_region 9 with fail
    have q2 : ∀ d os, (grow (redrawn _ d) os).cell? ⟨b, 2, none⟩ = some (.int .i64 f2) := fun d os => cell_regrown (row_cell HX6.out.four 2 rfl) d os
    have q3 : ∀ d os, (grow (redrawn _ d) os).cell? ⟨b, 3, none⟩ = some (.int .i64 f3) := fun d os => cell_regrown (row_cell HX6.out.four 3 rfl) d os
    refine wp_region_quiet_below (by kernel_rfl) (by kernel_rfl) ?_
    repeat (first
      | go_big_quiet_skip
      | (go_big_quiet_want; first
        | (refine quiet_loadF _ rfl h (gF i F) rfl HX6.out.fr rfl _ rfl ?_; simp only [Act.put, List.setIfInBounds_toArray, List.set_cons_succ, List.set_cons_zero]; go_big_quiet_on)
        | (refine quiet_load10 _ rfl g E rfl HX6.out.nrg _ rfl ?_; simp only [Act.put, List.setIfInBounds_toArray, List.set_cons_succ, List.set_cons_zero]; go_big_quiet_on)
        | (go_big_quiet_op; first | go_big_quiet_on | go_big_quiet_call (first
          | (go_at_call 9; refine Calls.regrown_of (guess_V HV _))
          | (go_at_call 10; refine Calls.regrown_of (fines_V _ _ hf2 _))
          | (go_at_call 11; refine Calls.regrown_of (rfines_V _ _ hf2 _))))))
    refine wpQuiet_nil ?_
    intro _ hw'
    obtain ⟨⟨dp, osp⟩, hw''⟩ := hw'
    subst hw''
    have HX7 : Hid (GX w (grow (redrawn _ dp) osp) f0 f1 f2 f3 b g h i F E) := HX6.out.keep (below_regrown _ dp osp)
    go_wp2
    go_returns
    exact ⟨rfl, HX7.out.low⟩
end Go.Proofs.YtfgpmdikkncckaaDoor
