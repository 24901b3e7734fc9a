/-
  The law FrameOdd of layer 16 (frame) as a walk: called at any input it returns true, and nothing that was there has turned.
-/
import Derived.Test.YtfgpmdikkncckaaDoorFrameAwake
import Derived.Test.YtfgpmdikkncckaaDoorFrameNrg
namespace Go.Proofs.YtfgpmdikkncckaaDoor
set_option linter.unusedVariables false
set_option linter.unusedSimpArgs false
set_option maxRecDepth 100000
open Go.ChangeShapes Go.WideShapes Go.ChangeAt Go.RowKit

theorem ask_info : (Tryd.prog.info? 26).map (·.size) = some 13 := by kernel_rfl
/-- A whole ask is read. -/
theorem load_ask (w : World) (b : Nat) (ao : Option Addr) (n cap : Nat) (s c : Int) (P : Nat → Int) (z : Nat × Nat) (h : w.heap[b]? = some (.cells (askC ao n cap s c P) 26 z)) :
    (Instr.loadAt 26 (.pointer (some ⟨b, 0, none⟩))).run Tryd.prog w = .ok (.agg (askC ao n cap s c P)) w := by
  simp only [Instr.loadAt, Instr.sureAddr, Sem.run_bind, Sem.run_pure, Result.andThen_ok, run_loadVar_row w b 26 26 (askC ao n cap s c P) z _ h Tryd.underlying26 rfl ask_info]

theorem ask_cells {w : World} {b : Nat} {ao : Option Addr} {n cap : Nat} {s c : Int} {P : Nat → Int} {z : Nat × Nat} (h : w.heap[b]? = some (.cells (askC ao n cap s c P) 26 z)) :
    w.cell? ⟨b, 0, none⟩ = some (.slice ao n cap) ∧ w.cell? ⟨b, 1, none⟩ = some (.int .u8 s) ∧ w.cell? ⟨b, 2, none⟩ = some (.int .u8 c) ∧ w.cell? ⟨b, 3, none⟩ = some (.int .u8 (P 0)) ∧ w.cell? ⟨b, 4, none⟩ = some (.int .u8 (P 1)) ∧ w.cell? ⟨b, 5, none⟩ = some (.int .u8 (P 2)) ∧ w.cell? ⟨b, 6, none⟩ = some (.int .u8 (P 3)) ∧ w.cell? ⟨b, 7, none⟩ = some (.int .u8 (P 4)) ∧ w.cell? ⟨b, 8, none⟩ = some (.int .u8 (P 5)) ∧ w.cell? ⟨b, 9, none⟩ = some (.int .u8 (P 6)) ∧ w.cell? ⟨b, 10, none⟩ = some (.int .u8 (P 7)) ∧ w.cell? ⟨b, 11, none⟩ = some (.int .u8 (P 8)) ∧ w.cell? ⟨b, 12, none⟩ = some (.int .u8 (P 9)) :=
  ⟨cell_of_row _ _ 0 _ _ _ h, cell_of_row _ _ 1 _ _ _ h, cell_of_row _ _ 2 _ _ _ h, cell_of_row _ _ 3 _ _ _ h, cell_of_row _ _ 4 _ _ _ h, cell_of_row _ _ 5 _ _ _ h, cell_of_row _ _ 6 _ _ _ h, cell_of_row _ _ 7 _ _ _ h, cell_of_row _ _ 8 _ _ _ h, cell_of_row _ _ 9 _ _ _ h, cell_of_row _ _ 10 _ _ _ h, cell_of_row _ _ 11 _ _ _ h, cell_of_row _ _ 12 _ _ _ h⟩

set_option maxHeartbeats 4000000 in
/-- In a mode that isn't right nothing is read. -/
theorem read_bad (w : World) (u v : Value) (s c : Int) (P : Nat → Int) (hr : ¬ right s c) :
    Calls Tryd.prog 15 #[u, v, (.agg #[.int .i64 (s), .int .i64 (c)]), .agg (row10 P)] w fun e w' => e = .returned (.tuple #[.agg ZF, .int .u32 0, .bool false]) ∧ Below w.heap.size w w' := by
  have hX : ∀ w1, Below (((w.alloc (.cells #[.int .i64 s, .int .i64 c] 53)).alloc (.cells (row10 P) 30)).alloc (.cells ZF 35)).heap.size (((w.alloc (.cells #[.int .i64 s, .int .i64 c] 53)).alloc (.cells (row10 P) 30)).alloc (.cells ZF 35)) w1 →
      w1.heap[w.heap.size + 2]? = some (.cells ZF 35 (0, 0)) ∧ Below w.heap.size w w1 := by
    intro w1 hb
    have hz : (((w.alloc (.cells #[.int .i64 s, .int .i64 c] 53)).alloc (.cells (row10 P) 30)).alloc (.cells ZF 35)).heap.size = w.heap.size + 3 := by simp
    obtain ⟨a1, a2, a3⟩ := heap_threeF w (.cells #[.int .i64 s, .int .i64 c] 53) (.cells (row10 P) 30) (.cells ZF 35)
    have hg : w.grownBy (((w.alloc (.cells #[.int .i64 s, .int .i64 c] 53)).alloc (.cells (row10 P) 30)).alloc (.cells ZF 35)) none := gN_alloc (gN_alloc (gN_alloc (gN_refl w) _) _) _
    exact ⟨(hb.block _ (by omega)).trans a3, (gN_below hg).trans (hb.mono (by omega))⟩
  go_enter Tryd.func15, Tryd.ntmps15
  go_wp2_with (first
    | (refine wl_allocF rfl rfl ?_)
    | (refine wl_buildF0 rfl rfl ?_)
    | (go_at_call 20; refine (right_no _ _ _ hr).mono ?_; rintro e w1 ⟨rfl, hb1⟩; have HX : Hid _ := hX w1 hb1; have hst := store94 w1 (w.heap.size + 2) ZF ZF HX.out.1 rfl rfl ZF_one; clear hb1 hX))
  refine bodyPost_ret (results_frame rfl _ _ (w.heap.size + 2) ZF (0, 0) _ _ rfl rfl rfl (by exact setRowF_heap HX.out.1) rfl) rfl ⟨rfl, ?_⟩
  exact below_setRow HX.out.2 (by omega) _

/-- Where the law has its ask, and a reader. -/
structure OX (w X : World) (A : Array Value) (lo hi br n : Nat) (p : Nat → Int) (m : Re) : Prop where
  ask : X.heap[w.heap.size]? = some (.cells A 26 (0, 0))
  rd : RdAt X lo hi br n p m
  low : Below w.heap.size w X
  hs : hi ≤ X.heap.size
section
variable {w X X' Y : World} {A : Array Value} {lo hi br n : Nat} {p : Nat → Int} {m : Re}
theorem OX.keep (h : OX w X A lo hi br n p m) (hb : Below X.heap.size X X') : OX w X' A lo hi br n p m :=
  ⟨(hb.block _ (lt_size_of_block h.ask)).trans h.ask, h.rd.keep (gN_of_below hb), h.low.trans (hb.mono h.low.size), Nat.le_trans h.hs hb.size⟩
theorem OX.drew (h : OX w X A lo hi br n p m) : OX w X.drew A lo hi br n p m := ⟨h.ask, h.rd.keep (grown_drew (grown_refl _ _)), ⟨h.low.os, h.low.tape, h.low.output, h.low.size, h.low.block⟩, h.hs⟩
/-- A frame that was made meanwhile is written. -/
theorem OX.row (h : OX w X A lo hi br n p m) (h4 : OX w Y A lo hi br n p m) {C : Array Value} : OX w (X.setRow Y.heap.size C) A lo hi br n p m :=
  ⟨(setRowF_same (Nat.ne_of_lt (lt_size_of_block h4.ask))).trans h.ask, h.rd.kept (setRowF_grown X _ C) (by intro q e; cases e; exact .inr h4.hs), below_setRow h.low h4.low.size C, by simp only [World.setRow, Array.size_modify]; exact h.hs⟩
theorem OX.al (h : OX w X A lo hi br n p m) {o : Obj} : OX w (X.alloc o) A lo hi br n p m := h.keep (gN_below (gN_alloc (gN_refl _) _))
theorem OX.drewN (h : OX w X A lo hi br n p m) (d : Nat) : OX w (X.drewN d) A lo hi br n p m := by
  induction d with
  | zero => exact h
  | succ d ih => exact ih.drew
end
theorem bx_cut {W : World} {ao : Option Addr} {n : Nat} {p : Nat → Int} (h : IntsAt W ao n .u8 p) (hw : ∀ i, i < n → (Lit.int .u8 (p i)).wf = true) : ∃ p', IntsAt W ao n .u8 p' ∧ Bx n p' := by
  refine ⟨fun i => if i < n then p i else 0, fun i hi => ?_, fun i => ?_, fun i hi => if_neg (by omega)⟩
  · obtain ⟨b, off, e, hc⟩ := h i hi
    exact ⟨b, off, e, by show _ = some (Value.int .u8 (if i < n then p i else 0)); rw [if_pos hi]; exact hc⟩
  · show 0 ≤ (if i < n then p i else 0) ∧ (if i < n then p i else 0) ≤ 255
    split
    · rename_i hi
      have := hw i hi
      simp [Lit.wf, IntKind.bits, IntKind.signed, IntKind.min, IntKind.max] at this
      omega
    · exact ⟨Int.le_refl _, by decide⟩

theorem zero_is : Tryd.zeroCells35 = ZF := by kernel_rfl
theorem zkeep {X X' : World} (hb : Below (X.alloc (.cells Tryd.zeroCells35 35)).heap.size (X.alloc (.cells Tryd.zeroCells35 35)) X') : Hid (X'.heap[X.heap.size]? = some (.cells ZF 35 (0, 0))) := by
  show _ = _
  rw [hb.block _ (by simp), heap_alloc_new, zero_is]
theorem zput {X : World} {g : Nat} (h : X.heap[g]? = some (.cells ZF 35 (0, 0))) : (X.setRow g ZF).heap[g]? = some (.cells ZF 35 (0, 0)) := setRowF_heap h
theorem zcarry {X X' : World} {g : Nat} (h : Hid (X.heap[g]? = some (.cells ZF 35 (0, 0)))) (hb : Below X.heap.size X X') : X'.heap[g]? = some (.cells ZF 35 (0, 0)) := (hb.block _ (lt_size_of_block h.out)).trans h.out
theorem store94_newZ (w : World) : Sem.run Tryd.prog (storeCells ⟨w.heap.size, 0, none⟩ ZF.toList) (w.alloc (.cells Tryd.zeroCells35 35)) = .ok () (w.alloc (.cells ZF 35)) := by
  rw [zero_is]; exact store94_new w ZF rfl ZF_one

attribute [local go_sem] fr_eqZ

set_option maxHeartbeats 2000000 in
theorem odd_law (w : World) (ao : Option Addr) (n cap : Nat) (s c : Int) (P p : Nat → Int) (S C : Int) (hI : Hid (IntsAt w ao n .u8 p)) (hw : Hid (∀ i, i < n → (Lit.int .u8 (p i)).wf = true)) (hP : Hid (∀ j, j < 10 → (Lit.int .u8 (P j)).wf = true)) :
    Calls Tryd.prog 4 #[.agg (askC ao n cap s c P), .int .i64 S, .int .i64 C] w fun e w' => e = .returned (.bool true) ∧ Below w.heap.size w w' := by
  have HA0 : Hid ((w.alloc (.cells (askC ao n cap s c P) 26)).heap[w.heap.size]? = some (.cells (askC ao n cap s c P) 26 (0, 0)) ∧ Below w.heap.size w (w.alloc (.cells (askC ao n cap s c P) 26))) := ⟨heap_alloc_new w _, (Below.refl _ _).alloc (Nat.le_refl _) _⟩
  go_enter Tryd.func4, Tryd.ntmps4
  go_wp2_with fail
  refine (awake16 _).mono ?_
  rintro e w1 ⟨rfl, hb1⟩
  have HA1 : Hid (w1.heap[w.heap.size]? = some (.cells (askC ao n cap s c P) 26 (0, 0)) ∧ Below w.heap.size w w1) := ⟨(hb1.block _ (lt_size_of_block HA0.out.1)).trans HA0.out.1, HA0.out.2.trans (hb1.mono HA0.out.2.size)⟩
  clear hb1 HA0
  have c0 : w1.cell? ⟨w.heap.size, 0, none⟩ = some (.slice ao n cap) := row_cell HA1.out.1 0 rfl
  by_cases h13 : 1300 < n
  · have h13' : (1300 : Int) < (n : Int) := by omega
    go_wp2
    go_returns
    exact ⟨rfl, HA1.out.2⟩
  · have h13' : ¬ (1300 : Int) < (n : Int) := by omega
    by_cases hr : right S C
    · go_wp2_with (go_at_call 12; refine (rright_any _ _ _).mono ?_; rw [decide_eq_true hr]; rintro e w2 ⟨rfl, hw⟩; obtain rfl := hw.symm; clear hw)
      go_returns
      exact ⟨rfl, HA1.out.2⟩
    · obtain ⟨p', hI', hX'⟩ := bx_cut (hI.out.below HA1.out.2) hw.out
      have HX : Hid (Bx n p') := hX'
      have HI : Hid (IntsAt w1 ao n .u8 p') := hI'
      clear hX' hI'
      go_upto_region 5 with (go_at_call 12; refine (rright_any _ _ _).mono ?_; rw [decide_eq_false hr]; rintro e w2 ⟨rfl, hw⟩; obtain rfl := hw.symm; clear hw)
      go_upto_region 6 with fail
      refine (rdnew _ ao n cap p' (by omega) HX HI).mono ?_
      rintro e w3 ⟨br, rfl, h3, hb3⟩
      have H3 : Hid (OX w w3 (askC ao n cap s c P) w1.heap.size w3.heap.size br n p' (Re.new p')) := ⟨(hb3.block _ (lt_size_of_block HA1.out.1)).trans HA1.out.1, h3, HA1.out.2.trans (hb3.mono HA1.out.2.size), Nat.le_refl _⟩
      clear h3 hb3 c0 HA1 HI
      generalize w3.heap.size = hi at H3
      generalize w1.heap.size = lo at H3
      go_upto_region 7 with (go_at_call 14; refine (rdleft _ lo hi br n p' _ (by omega) (show (3 : Nat) ≤ 900000 by decide) (show (0 : Nat) ≤ 900000 by decide) H3.out.rd).mono ?_; rintro e w4 ⟨rfl, hw⟩; have H4 : Hid (OX w w4 (askC ao n cap s c P) lo hi br n p' (Re.new p')) := (by rw [hw]; exact H3.out.drew); clear hw)
      clear H3
      obtain ⟨l, hl⟩ : ∃ l, (Re.new p').left n = l := ⟨_, rfl⟩
      have HLE : Hid ((Re.new p').left n = l) := hl
      rw [hl]
      clear hl
      have HC0 := H4.out.ask
      go_cut [9, 10, 11] (fun q u v wc => ∃ g : Nat, q = .pointer (some ⟨g, 0, none⟩) ∧ u = .int .u32 0 ∧ v = .bool false ∧ Hid (wc.heap[g]? = some (.cells ZF 35 (0, 0))) ∧ Hid (OX w wc (askC ao n cap s c P) lo hi br n p' (Re.new p')))
      case first =>
        go_region_held3 (fun w' => w'.cell? ⟨w.heap.size, 0, none⟩ = some (.slice ao n cap) ∧ w'.cell? ⟨w.heap.size, 1, none⟩ = some (.int .u8 s) ∧ w'.cell? ⟨w.heap.size, 2, none⟩ = some (.int .u8 c) ∧ w'.cell? ⟨w.heap.size, 3, none⟩ = some (.int .u8 (P 0)) ∧ w'.cell? ⟨w.heap.size, 4, none⟩ = some (.int .u8 (P 1)) ∧ w'.cell? ⟨w.heap.size, 5, none⟩ = some (.int .u8 (P 2)) ∧ w'.cell? ⟨w.heap.size, 6, none⟩ = some (.int .u8 (P 3)) ∧ w'.cell? ⟨w.heap.size, 7, none⟩ = some (.int .u8 (P 4)) ∧ w'.cell? ⟨w.heap.size, 8, none⟩ = some (.int .u8 (P 5)) ∧ w'.cell? ⟨w.heap.size, 9, none⟩ = some (.int .u8 (P 6)) ∧ w'.cell? ⟨w.heap.size, 10, none⟩ = some (.int .u8 (P 7)) ∧ w'.cell? ⟨w.heap.size, 11, none⟩ = some (.int .u8 (P 8)) ∧ w'.cell? ⟨w.heap.size, 12, none⟩ = some (.int .u8 (P 9))) (first | exact ask_cells HC3 | exact ask_cells HC2 | exact ask_cells HC1 | exact ask_cells HC0 | exact ask_cells ((heap_alloc_old _ _ (lt_size_of_block HC3)).trans HC3) | exact ask_cells ((heap_alloc_old _ _ (lt_size_of_block HC2)).trans HC2) | exact ask_cells ((heap_alloc_old _ _ (lt_size_of_block HC1)).trans HC1) | exact ask_cells ((heap_alloc_old _ _ (lt_size_of_block HC0)).trans HC0) | exact ask_cells ((setRowF_same (Nat.ne_of_lt (lt_size_of_block HC3))).trans ((heap_alloc_old _ _ (lt_size_of_block HC3)).trans HC3)) | exact ask_cells ((setRowF_same (Nat.ne_of_lt (lt_size_of_block HC0))).trans HC3) | exact ask_cells ((setRowF_same (Nat.ne_of_lt (lt_size_of_block HC1))).trans HC3) | exact ask_cells ((setRowF_same (Nat.ne_of_lt (lt_size_of_block HC2))).trans HC3)) ((first
          | (go_at_call 15; refine (read_bad _ _ _ _ _ _ hr).mono ?_; rintro e w8 ⟨rfl, hb8⟩; have H8 : Hid (OX w w8 (askC ao n cap s c P) lo hi br n p' (Re.new p')) := (by first | exact H6.out.keep hb8 | exact H6.out.drew.keep hb8 | exact H6.out.al.keep hb8 | exact H6.out.drew.al.keep hb8); have HC3 := H8.out.ask; (first | (have HG : Hid (w8.heap[w4.heap.size]? = some (.cells ZF 35 (0, 0))) := zcarry HG hb8; have hst := store94 w8 w4.heap.size ZF ZF HG.out rfl rfl ZF_one) | (have HG : Hid (w8.heap[w5.heap.size]? = some (.cells ZF 35 (0, 0))) := zcarry HG hb8; have hst := store94 w8 w5.heap.size ZF ZF HG.out rfl rfl ZF_one) | (have HG : Hid (w8.heap[w6.heap.size]? = some (.cells ZF 35 (0, 0))) := (by with_reducible exact zkeep hb8); have hst := store94 w8 w6.heap.size ZF ZF HG.out rfl rfl ZF_one) | (have hst := store94_newZ w8)); clear hb8)
          | (go_at_call 6; refine (energies_any _ _ _ _ _ _ _ hP).mono ?_; rintro e w6 ⟨rfl, hb6⟩; have H6 : Hid (OX w w6 (askC ao n cap s c P) lo hi br n p' (Re.new p')) := (by first | exact H5.out.keep hb6 | exact H5.out.drew.keep hb6 | exact H5.out.al.keep hb6 | exact H5.out.drew.al.keep hb6); have HC2 := H6.out.ask; (first | (have HG : Hid (w6.heap[w4.heap.size]? = some (.cells ZF 35 (0, 0))) := zcarry HG hb6) | (have HG : Hid (w6.heap[w5.heap.size]? = some (.cells ZF 35 (0, 0))) := (by with_reducible exact zkeep hb6)) | skip); clear hb6)
          | (go_at_call 16; refine (plain_any _).mono ?_; rintro e w5 ⟨bk, rfl, _, hb5, _⟩; have H5 : Hid (OX w w5 (askC ao n cap s c P) lo hi br n p' (Re.new p')) := (by first | exact H4.out.keep hb5 | exact H4.out.drew.keep hb5 | exact H4.out.al.keep hb5 | exact H4.out.drew.al.keep hb5); have HC1 := H5.out.ask; (first | (have HG : Hid (w5.heap[w4.heap.size]? = some (.cells ZF 35 (0, 0))) := (by first | with_reducible exact zkeep hb5 | exact zkeep (X := w4.drew) hb5)) | skip); clear hb5)))
        all_goals (try go_wp2)
        all_goals go_meet
        all_goals (refine ⟨_, rfl, rfl, rfl, ?_, ?_⟩)
        all_goals (first
          | exact H8.out.row H4.out
          | exact H8.out.row H5.out
          | exact H8.out.row H6.out
          | exact H8.out.al
          | exact zput HG.out
          | exact heap_alloc_new _ _)
      case rest =>
        clear H4 HC0
        obtain ⟨g, rfl, rfl, rfl, HG, HO⟩ := hcut
        have e2 := fr_eqZ
        go_wp2_with (first
          | (refine wl_loadF rfl _ rfl g ZF rfl HG.out rfl ?_)
          | (refine wl_buildF0 rfl rfl ?_)
          | (go_at_call 14; refine (rdleft _ lo hi br n p' _ (by omega) (show (3 : Nat) ≤ 900000 by decide) (show (0 : Nat) ≤ 900000 by decide) HO.out.rd).mono ?_; rw [HLE.out]; rintro e w9 ⟨rfl, hw⟩; have H9 : Hid (OX w w9 (askC ao n cap s c P) lo hi br n p' (Re.new p')) := (by rw [hw]; exact HO.out.drew); clear hw))
        go_returns
        exact ⟨rfl, H9.out.low⟩
end Go.Proofs.YtfgpmdikkncckaaDoor
