/-
  What Alloc of the document's own answer for layer 14 is: level by level, and in each one band by band. It makes lists of its own; nothing that was there is turned.
-/
import Derived.Test.YtfgpmdikkncckaaGreatDoorAllocAwake
import Derived.Test.YtfgpmdikkncckaaGreatDoorCostRef2
import Derived.Lib.QuietBelow
import Derived.BigQuiet
import Derived.Deep.QuietTactic
namespace Go.Proofs.YtfgpmdikkncckaaGreatDoor
set_option linter.unusedVariables false
set_option maxRecDepth 100000
open Go.ChangeShapes Go.WideShapes Go.ChangeAt Go.RowKit

/-- The rows of the first bands. -/
def rwL (j : Nat) : List (List Int) := (List.range j).map fun b => rl (widF b).toNat
theorem rwL_len (j : Nat) : (rwL j).length = j := by simp [rwL]
theorem rwL_next (j : Nat) : rwL j ++ [rl (widF j).toNat] = rwL (j + 1) := by simp [rwL, List.range_succ]
theorem rwL_at {j b : Nat} (h : b < j) : (rwL j)[b]? = some (rl (widF b).toNat) := by simp [rwL, h]

/-- What the walk by levels has in memory: its result (noughts so far), the pulses, the rows of what pulses cost. -/
structure RS (w wr : World) (g B : Nat) (k : Nat → Int) : Prop where
  res : Rw wr w.heap.size (fun _ => 0)
  k : Rw wr (w.heap.size + 1) k
  lo : w.heap.size + 2 ≤ g
  rows : ∀ b, b < B → ∃ gb cb, w.heap.size + 2 ≤ gb ∧ wr.cell? ⟨g, b, none⟩ = some (.slice (some ⟨gb, 0, none⟩) (cap (widF b).toNat + 1) cb) ∧ ∀ q, q ≤ cap (widF b).toNat → wr.cell? ⟨gb, q, none⟩ = some (.int .i64 (bt (widF b).toNat q : Nat))
  low : Below w.heap.size w wr
section
variable {w wr : World} {g B : Nat} {k : Nat → Int}
theorem RS.drewN (h : RS w wr g B k) (d : Nat) : RS w (wr.drewN d) g B k := ⟨h.res, h.k, h.lo, h.rows, low_drewN h.low d⟩
theorem RS.more (h : RS w wr g B k) {b : Nat} (hb : b < 5) : RS w (wr.setCell ⟨w.heap.size + 1, b, none⟩ (.int .i64 (k b + 1))) g B (aMore k b) := by
  have hlo := h.lo
  refine ⟨h.res.set_other (by omega) b _, ?_, h.lo, fun i hi => ?_, h.low.setCell (p := ⟨w.heap.size + 1, b, none⟩) (by simp) _⟩
  · show _ = _
    rw [← row5_more k (k := b) hb]
    exact heap_setCell_same wr (w.heap.size + 1) b _ _ _ h.k
  · obtain ⟨gb, cb, h1, h2, h3⟩ := h.rows i hi
    refine ⟨gb, cb, h1, ?_, fun q hq => ?_⟩
    · rw [World.cell?_of_block (w := wr) (Below.heap_setCell wr ⟨w.heap.size + 1, b, none⟩ _ g (by show g ≠ w.heap.size + 1; omega))]; exact h2
    · rw [World.cell?_of_block (w := wr) (Below.heap_setCell wr ⟨w.heap.size + 1, b, none⟩ _ gb (by show gb ≠ w.heap.size + 1; omega))]; exact h3 q hq
theorem RS.fin (h : RS w wr g B k) (C : Array Value) : Below w.heap.size w (wr.setRow w.heap.size C) := below_setRow5 h.low (Nat.le_refl _) C
end

set_option maxRecDepth 4000 in
set_option maxHeartbeats 4000000 in
theorem ralloc_at (w : World) (s c t n : Int) (B : Nat) (hc : c = 1 ∨ c = 2) (s0 : 0 ≤ s ∧ s < 3) (hBs : (B : Int) = s + 3) (h3 : 3 ≤ B) (h5 : B ≤ 5) :
    Calls Tryz.prog 48 #[.int .i64 s, .int .i64 c, .int .i64 t, .int .i64 n] w fun e w' => ∃ R, e = .returned (.agg (row5 R)) ∧ Out B c t n R ∧ Below w.heap.size w w' := by
  have HBA : Hid (∀ w, Calls Tryz.prog 42 #[.int .i64 s] w fun e w' => e = .returned (.int .i64 (B : Int)) ∧ w' = w) := fun w => by
    have := rbands_any s w s0.1 s0.2
    rw [← hBs] at this
    exact this
  clear hBs s0
  obtain ⟨o2, ho2⟩ : ∃ o : Obj, o = .cells #[.int .i64 0, .int .i64 0, .int .i64 0, .int .i64 0, .int .i64 0] 31 := ⟨_, rfl⟩
  have HR0 : Hid (Rw ((w.alloc o2).alloc o2) w.heap.size (fun _ => 0)) := by rw [ho2]; exact (Rw.new w (fun _ => 0)).alloc _
  have HC0 : Hid (Rw ((w.alloc o2).alloc o2) (w.heap.size + 1) (fun _ => 0)) := by
    have := Rw.new (w.alloc o2) (fun _ => 0)
    rw [show (w.alloc o2).heap.size = w.heap.size + 1 from Array.size_push .., row5_zero, ← ho2] at this
    exact this
  have HB0 : Hid (Below w.heap.size w ((w.alloc o2).alloc o2)) := gN_below (gN_alloc (gN_alloc (gN_refl w) _) _)
  have hs0 : ((w.alloc o2).alloc o2).heap.size = w.heap.size + 2 := by simp
  subst ho2
  go_enter Tryz.func48, Tryz.ntmps48
  go_wp2_with (go_at_call 42; refine (HBA.out _).mono ?_; rintro e w1 ⟨rfl, hw⟩; obtain rfl := hw.symm; clear hw)
  obtain ⟨w0, hw0⟩ : ∃ w0, ((w.alloc (.cells #[.int .i64 0, .int .i64 0, .int .i64 0, .int .i64 0, .int .i64 0] 31)).alloc (.cells #[.int .i64 0, .int .i64 0, .int .i64 0, .int .i64 0, .int .i64 0] 31)) = w0 := ⟨_, rfl⟩
  rw [hw0] at HR0 HC0 HB0 hs0
  go_loopw [10, 12] (fun v i wr => ∃ j : Nat, j ≤ B ∧ i = .int .i64 j ∧ Hid (OwnLL wr (w.heap.size + 2) v (rwL j)) ∧ Hid (Rw wr w.heap.size (fun _ => 0)) ∧ Hid (Rw wr (w.heap.size + 1) (fun _ => 0)) ∧ Hid (Below w.heap.size w wr) ∧ w.heap.size + 2 ≤ wr.heap.size) (fun _ i _ => B - (intOf i).toNat)
  case atStart => exact ⟨0, by omega, rfl, OwnLL.nil _ _, by rw [hw0]; exact HR0, by rw [hw0]; exact HC0, by rw [hw0]; exact HB0, by rw [hw0, hs0]; exact Nat.le_refl _⟩
  case round =>
    clear HR0 HC0 HB0 hs0 hw0
    obtain ⟨j, hj, rfl, HO, HR, HC, HB, hsz⟩ := hrel
    by_cases hlt : j < B
    · have hlt' : (j : Int) < (B : Int) := by omega
      obtain ⟨N, hN, hN1, hN2⟩ := wid_nat (i := j) (by omega)
      have HN : Hid (widF j = (N : Int)) := hN
      have HNT : Hid (rl (widF j).toNat = rl N) := by show _ = _; rw [hN]; rfl
      have HRR : Hid (∀ w, Calls Tryz.prog 78 #[.int .i64 N] w fun e w' => ∃ g c : Nat, e = .returned (.slice (some ⟨g, 0, none⟩) (cap N + 1 : Nat) c) ∧ OwnL w' w.heap.size (.slice (some ⟨g, 0, none⟩) (cap N + 1 : Nat) c) (rl N) ∧ Below w.heap.size w w') := fun w => rrow_in w N (by omega) hN2
      clear hN
      go_wp2_with (first
        | (go_at_call 49; refine (rband_any j _ (by omega)).mono ?_; rw [HN.out]; rintro e w1 ⟨rfl, hw⟩; obtain rfl := hw.symm; clear hw)
        | (go_at_call 78; refine (HRR.out _).mono ?_; rintro e w1 ⟨gr, cr, rfl, hO1, hB1⟩; have hO1' := hO1; have hgn : wr.grownBy w1 none := ⟨hB1.os, hB1.tape, hB1.output, hB1.size, fun i hi _ => hB1.block i hi⟩; have HO2 : Hid (OwnLL w1 (w.heap.size + 2) u10 (rwL j)) := HO.out.keep hgn; have HO3 : Hid (OwnL w1 (w.heap.size + 2) (.slice (some ⟨gr, 0, none⟩) (cap N + 1 : Nat) cr) (rl N)) := hO1'.mono hsz; have HR1 : Hid (Rw w1 w.heap.size (fun _ => 0)) := HR.out.below hB1; have HC1 : Hid (Rw w1 (w.heap.size + 1) (fun _ => 0)) := HC.out.below hB1; have HB1 : Hid (Below w.heap.size w w1) := HB.out.trans (hB1.mono HB.out.size); have hsz1 : w.heap.size + 2 ≤ w1.heap.size := Nat.le_trans hsz hB1.size; clear hO1 hO1' hB1 hgn)
        | (at_builtin; refine wpList_pushLL rfl _ _ rfl (w.heap.size + 2) u10 (rwL j) rfl (HO2.out.keep (World.grownBy_alloc w1 _ none)) w1.heap.size _ (rl N) rfl (heap_alloc_new _ _) (HO3.out.kept (World.grownBy_alloc w1 _ none) (by simp [Value.ownBlock])) (by rw [rwL_len]; omega) (by simp; omega) ?_; intro g2 c2 w2 k1 k2 k3 k4))
      rw [rwL_len] at k1 ⊢
      have HO4 : Hid (OwnLL w2 (w.heap.size + 2) (.slice (some ⟨g2, 0, none⟩) (j + 1) c2) (rwL (j + 1))) := by
        show OwnLL _ _ _ _
        rw [← rwL_next, HNT.out]
        exact k1
      have hq : ∀ q, u10.ownBlock = some q → w.heap.size + 2 ≤ q := fun q e => (HO2.out.lt e).1
      have hz : w1.heap.size ≤ w2.heap.size := by have := k2.size; simp at this; omega
      have HR4 : Hid (Rw w2 w.heap.size (fun _ => 0)) := (k2.block _ (by simp; omega) (fun e => by have := hq _ e.symm; omega)).trans (HR1.out.alloc _)
      have HC4 : Hid (Rw w2 (w.heap.size + 1) (fun _ => 0)) := (k2.block _ (by simp; omega) (fun e => by have := hq _ e.symm; omega)).trans (HC1.out.alloc _)
      have HB4 : Hid (Below w.heap.size w w2) := (HB1.out.alloc HB1.out.size _).grown k2 (by simp; omega) (fun q e => by have := hq q e; omega)
      clear k1 k2 k3 k4
      go_roundw
      case rel => exact ⟨j + 1, by omega, by go_num, HO4, HR4, HC4, HB4, by omega⟩
      case measure => simp [intOf]; omega
    · obtain rfl : j = B := by omega
      obtain ⟨g, cp, rfl, hg1, hg2, _, _⟩ := HO.out.form (by rw [rwL_len]; omega)
      rw [rwL_len] at HO ⊢
      have HS : Hid (RS w wr g j (fun _ => 0)) := ⟨HR.out, HC.out, hg1, fun b hb => by
        obtain ⟨x, hx, hO⟩ := HO.out.at (rwL_at hb)
        obtain ⟨N, hN, hN1, hN2⟩ := wid_nat (i := b) (by omega)
        have hN' : (widF b).toNat = N := by rw [hN]; rfl
        rw [hN'] at hO ⊢
        obtain ⟨gb, cb, rfl, h1, _⟩ := hO.form (by rw [rl_len (by omega) hN2]; omega)
        rw [rl_len (by omega) hN2] at hx hO
        exact ⟨gb, cb, h1, hx, fun q hq => hO.cell (rl_at (by omega) hN2 hq)⟩, HB.out⟩
      clear HO HR HC HB
      go_wp2_with fail
      go_loopw [15, 16] (fun v i wr => ∃ (L : Nat) (k : Nat → Int), 1 ≤ L ∧ L ≤ 3001 ∧ i = .int .i64 L ∧ v = .int .i64 (aPr k j * c) ∧ Hid (Lv j c t n L 0 k) ∧ Hid (RS w wr g j k)) (fun _ i _ => 3001 - (intOf i).toNat)
      case atStart => exact ⟨1, fun _ => 0, by omega, by omega, rfl, by rw [pr_zero h5 (fun _ _ => rfl), Int.zero_mul], Lv.start h5, HS⟩
      case round =>
        clear HS
        obtain ⟨L, k, hL1, hL2, rfl, rfl, HLV, HS⟩ := hrel
        by_cases hlt : L ≤ 3000
        · have hlt' : (L : Int) ≤ 3000 := by omega
          go_wp2_with fail
          go_loopw [15, 17] (fun v i wr => ∃ (b : Nat) (k : Nat → Int), b ≤ j ∧ i = .int .i64 b ∧ v = .int .i64 (aPr k j * c) ∧ Hid (Lv j c t n L b k) ∧ Hid (RS w wr g j k)) (fun _ i _ => j - (intOf i).toNat)
          case atStart => exact ⟨0, k, by omega, rfl, rfl, HLV, HS⟩
          case round =>
            clear HLV HS
            obtain ⟨b, k, hb, rfl, rfl, HLV, HS⟩ := hrel
            by_cases hbl : b < j
            · have hbl' : (b : Int) < (j : Int) := by omega
              have b0 : (0 : Int) ≤ (b : Int) := by omega
              have b5 : (b : Int) < 5 := by omega
              obtain ⟨N, hN, hN1, hN2⟩ := wid_nat (i := b) (by omega)
              have hN' : (widF b).toNat = N := by rw [hN]; rfl
              obtain ⟨gb, cb, hgb, hcell, hrow⟩ := HS.out.rows b hbl
              rw [hN'] at hcell hrow
              have hfit := HLV.out.fit h5
              obtain ⟨q, hq⟩ : ∃ q : Nat, k b = q := ⟨(k b).toNat, by have := hfit.pos b; omega⟩
              have kc := HS.out.k.cell (i := b) (by omega)
              rw [hq] at kc
              have hC32 := (cap_bd (n := N) (by omega)).1
              have hCB : capB b = (cap N : Nat) := by unfold capB; rw [hN]; exact capI_nat (by omega) hN2
              have hqC : (q : Int) ≤ (cap N : Nat) := by have := hfit.cap b hbl; omega
              have hlv := lev_bd (t := t) (k := k) (i := b) (by omega) (by omega) (by omega)
              have HLE : Hid (aLev t k b = ((q : Int) + 1) * aSl t b) := by show _ = _; unfold aLev; rw [hq]
              have hmul : 1 ≤ ((q : Int) + 1) * aSl t b ∧ ((q : Int) + 1) * aSl t b ≤ 1320 := by rw [← HLE.out]; exact hlv
              have hsl := sl_bd t (i := b) (by omega)
              have HRS : Hid (∀ w, Calls Tryz.prog 79 #[.int .i64 t, .int .i64 b] w fun e w' => e = .returned (.int .i64 (aSl t b)) ∧ w' = w) := fun w => rslope_any w t b (by omega)
              have hg0 : wr.cell? ⟨gb, q, none⟩ = some (.int .i64 (bt N q : Nat)) := hrow q (by omega)
              have HROW : Hid (∀ q, q ≤ cap N → wr.cell? ⟨gb, q, none⟩ = some (.int .i64 (bt N q : Nat))) := hrow
              clear hrow hfit hlv
              by_cases hc1 : q < cap N
              · by_cases hc2 : ((q : Int) + 1) * aSl t b = (L : Int)
                · have hkc : k b < capB b := by omega
                  have hll : aLev t k b = (L : Int) := by rw [HLE.out]; exact hc2
                  have hg1 : wr.cell? ⟨gb, q + 1, none⟩ = some (.int .i64 (bt N (q + 1) : Nat)) := HROW.out (q + 1) (by omega)
                  have hX0 := bt_bd (n := N) (k := q) hN2 (by omega)
                  have hX1 := bt_bd (n := N) (k := q + 1) hN2 (by omega)
                  have HPM : Hid (aPr (aMore k b) j = aPr k j + ((bt N (q + 1) : Nat) - (bt N q : Nat) : Int)) := by
                    show _ = _
                    rw [pr_more, if_pos hbl, hq, hN, show (q : Int) + 1 = ((q + 1 : Nat) : Int) by omega, btI_nat (by omega) hN2 (by omega), btI_nat (by omega) hN2 (by omega)]
                  have hpb := pr_bd (k := k) j
                  have HGV : Hid (c * aPr (aMore k b) j ≤ n → Lv j c t n L (b + 1) (aMore k b)) := fun h => HLV.out.give h5 hbl hkc hll h
                  have HSP : Hid (n < c * aPr (aMore k b) j → Out j c t n k) := fun h => HLV.out.stop hbl hkc hll h
                  have HSM : Hid _ := HS.out.more (b := b) (by omega)
                  rw [hq] at HSM
                  have HKK : Hid (k b = (q : Int)) := hq
                  obtain ⟨C, hC⟩ : ∃ C, cap N = C := ⟨_, rfl⟩
                  rw [hC] at hcell hC32 hqC hc1
                  have hge : decide ((C : Int) + 1 ≤ (q : Int) + 1) = false := decide_eq_false (by omega)
                  have hge2 : ¬ ((C : Int) + 1 ≤ (q : Int) + 1) := by omega
                  have hge3 : decide ((C : Int) ≤ (q : Int)) = false := decide_eq_false (by omega)
                  have hge4 : decide (C ≤ q) = false := decide_eq_false (by omega)
                  have hge5 : decide (((C + 1 : Nat) : Int) ≤ (q : Int) + 1) = false := decide_eq_false (by omega)
                  have hb2 : (((q : Int) + 1) * aSl t b == (L : Int)) = true := by simpa using hc2
                  have hq1 : ((q : Int) + 1).toNat = q + 1 := by omega
                  have hlt1 : (q : Int) + 1 < (C : Int) + 1 := by omega
                  have hlt2 : (q : Int) < (C : Int) + 1 := by omega
                  have fz := HS.out.k.fz b
                  have hst : ∀ d, Sem.run Tryz.prog (storeCells ⟨w.heap.size, 0, none⟩ (row5 k).toList) (wr.drewN d) = .ok () ((wr.drewN d).setRow w.heap.size (row5 k)) := fun d => store5 _ _ _ _ (HS.out.res.drewN d)
                  clear hCB hkc hll hC HLE hq
                  generalize bt N (q + 1) = X1 at *
                  generalize bt N q = X0 at *
                  generalize hP : aPr k j = P at *
                  rcases hc with rfl | rfl
                  · by_cases hbud : P * 1 + 1 * ((X1 : Int) - (X0 : Int)) ≤ n
                    · have hb3 : ¬ n < P * 1 + 1 * ((X1 : Int) - (X0 : Int)) := by omega
                      have HNX : Hid (Lv j 1 t n L (b + 1) (aMore k b)) := HGV.out (by rw [HPM.out]; omega)
                      go_wp2
                      go_quiet ((go_at_call 79; refine Calls.quiet_of_same (HRS.out _)))
                      go_wp2
                      go_quiet (fail)
                      go_wp2
                      go_roundw
                      case rel => exact ⟨b + 1, aMore k b, by omega, by go_num, by rw [HPM.out]; congr 1; omega, HNX, HSM.out.drewN _⟩
                      case measure => simp [intOf]; omega
                    · have hb3 : n < P * 1 + 1 * ((X1 : Int) - (X0 : Int)) := by omega
                      have HOUT : Hid (Out j 1 t n k) := HSP.out (by rw [HPM.out]; omega)
                      go_wp2
                      go_quiet ((go_at_call 79; refine Calls.quiet_of_same (HRS.out _)))
                      go_wp2
                      go_quiet (fail)
                      go_wp2_with (refine wl_load5 rfl _ rfl (w.heap.size + 1) k rfl (HS.out.k.drewN _) ?_)
                      refine bodyPost_ret (results_cell_row rfl _ _ w.heap.size 31 (row5 k) (0, 0) _ rfl ((HS.out.drewN _).res.setRow _) t5_under rfl (by rw [row5_size]; exact t5_info)) rfl ⟨k, rfl, HOUT.out, (HS.out.drewN _).fin _⟩
                  · by_cases hbud : P * 2 + 2 * ((X1 : Int) - (X0 : Int)) ≤ n
                    · have hb3 : ¬ n < P * 2 + 2 * ((X1 : Int) - (X0 : Int)) := by omega
                      have HNX : Hid (Lv j 2 t n L (b + 1) (aMore k b)) := HGV.out (by rw [HPM.out]; omega)
                      go_wp2
                      go_quiet ((go_at_call 79; refine Calls.quiet_of_same (HRS.out _)))
                      go_wp2
                      go_quiet (fail)
                      go_wp2
                      go_roundw
                      case rel => exact ⟨b + 1, aMore k b, by omega, by go_num, by rw [HPM.out]; congr 1; omega, HNX, HSM.out.drewN _⟩
                      case measure => simp [intOf]; omega
                    · have hb3 : n < P * 2 + 2 * ((X1 : Int) - (X0 : Int)) := by omega
                      have HOUT : Hid (Out j 2 t n k) := HSP.out (by rw [HPM.out]; omega)
                      go_wp2
                      go_quiet ((go_at_call 79; refine Calls.quiet_of_same (HRS.out _)))
                      go_wp2
                      go_quiet (fail)
                      go_wp2_with (refine wl_load5 rfl _ rfl (w.heap.size + 1) k rfl (HS.out.k.drewN _) ?_)
                      refine bodyPost_ret (results_cell_row rfl _ _ w.heap.size 31 (row5 k) (0, 0) _ rfl ((HS.out.drewN _).res.setRow _) t5_under rfl (by rw [row5_size]; exact t5_info)) rfl ⟨k, rfl, HOUT.out, (HS.out.drewN _).fin _⟩
                · have HNX : Hid (Lv j c t n L (b + 1) k) := HLV.out.skip hbl (fun e => hc2 (by rw [← HLE.out]; exact e.2))
                  obtain ⟨C, hC⟩ : ∃ C, cap N = C := ⟨_, rfl⟩
                  rw [hC] at hcell hC32 hqC hc1
                  have hge : decide ((C : Int) + 1 ≤ (q : Int) + 1) = false := decide_eq_false (by omega)
                  have hge2 : ¬ ((C : Int) + 1 ≤ (q : Int) + 1) := by omega
                  have hge3 : decide ((C : Int) ≤ (q : Int)) = false := decide_eq_false (by omega)
                  have hge4 : decide (C ≤ q) = false := decide_eq_false (by omega)
                  have hge5 : decide (((C + 1 : Nat) : Int) ≤ (q : Int) + 1) = false := decide_eq_false (by omega)
                  have hb2 : (((q : Int) + 1) * aSl t b == (L : Int)) = false := by simpa using hc2
                  go_wp2
                  go_quiet ((go_at_call 79; refine Calls.quiet_of_same (HRS.out _)))
                  go_wp2
                  go_roundw
                  case rel => exact ⟨b + 1, k, by omega, by go_num, rfl, HNX, HS.out.drewN _⟩
                  case measure => simp [intOf]; omega
              · have HNX : Hid (Lv j c t n L (b + 1) k) := HLV.out.skip hbl (fun e => hc1 (by have := e.1; omega))
                obtain ⟨C, hC⟩ : ∃ C, cap N = C := ⟨_, rfl⟩
                rw [hC] at hcell hC32 hqC hc1
                have hge : decide ((C : Int) + 1 ≤ (q : Int) + 1) = true := decide_eq_true (by omega)
                have hge2 : (C : Int) + 1 ≤ (q : Int) + 1 := by omega
                go_wp2
                go_quiet ((go_at_call 79; refine Calls.quiet_of_same (HRS.out _)))
                go_wp2
                go_roundw
                case rel => exact ⟨b + 1, k, by omega, by go_num, rfl, HNX, HS.out.drewN _⟩
                case measure => simp [intOf]; omega
            · obtain rfl : b = j := by omega
              go_wp2
              go_roundw
              case rel => exact ⟨L + 1, k, by omega, by omega, by go_num, rfl, HLV.out.row, HS⟩
              case measure => simp [intOf]; omega
        · obtain rfl : L = 3001 := by omega
          have HOUT : Hid (Out j c t n k) := HLV.out.done h5 (by omega)
          have hst : ∀ d, Sem.run Tryz.prog (storeCells ⟨w.heap.size, 0, none⟩ (row5 k).toList) (wr.drewN d) = .ok () ((wr.drewN d).setRow w.heap.size (row5 k)) := fun d => store5 _ _ _ _ (HS.out.res.drewN d)
          have hst0 := store5 wr w.heap.size _ k HS.out.res
          go_wp2_with (refine wl_load5 rfl _ rfl (w.heap.size + 1) k rfl HS.out.k ?_)
          refine bodyPost_ret (results_cell_row rfl _ _ w.heap.size 31 (row5 k) (0, 0) _ rfl (HS.out.res.setRow _) t5_under rfl (by rw [row5_size]; exact t5_info)) rfl ⟨k, rfl, HOUT.out, HS.out.fin _⟩
end Go.Proofs.YtfgpmdikkncckaaGreatDoor
