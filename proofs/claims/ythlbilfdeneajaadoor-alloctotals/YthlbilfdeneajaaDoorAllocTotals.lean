/-
  What Total of the document's own answer for layer 14 is, and the law AllocTotals as a walk: called at any input it returns true, and nothing that was there has turned.
-/
import Derived.Test.YthlbilfdeneajaaDoorAllocAwake
import Derived.Test.YthlbilfdeneajaaDoorCostRef2
import Derived.Lib.QuietBelow
import Derived.BigQuiet
namespace Go.Proofs.YthlbilfdeneajaaDoor
set_option linter.unusedVariables false
open Go.ChangeShapes Go.WideShapes Go.ChangeAt Go.RowKit
open Go.Sort (grow)
attribute [local go_sem] cell?_gr frozen?_gr setCell_gr size_gr drew_gr drewN_gr redrawn_drew redrawn_drewN redrawn_redrawn gr_gr

theorem ok_in {s c : Int} {B : Nat} (hB : bandsF s c = B) {f : Nat → Int} {j : Nat} (hj : j < B) (h5 : B ≤ 5) (hO : aOk s c f j = true) : aOk s c f (j + 1) = decide (btI (widF j) (f j) ≠ -1) := by
  rw [aOk, hO, Bool.true_and]
  unfold aMay
  rw [width_in hB hj]
  have := wid_bd (i := j) (by omega)
  rw [if_neg (by omega)]
theorem ok_out {s c : Int} {B : Nat} (hB : bandsF s c = B) {f : Nat → Int} {j : Nat} (hj : ¬ j < B) (hO : aOk s c f j = true) : aOk s c f (j + 1) = decide (f j = 0) := by
  rw [aOk, hO, Bool.true_and]
  unfold aMay
  rw [width_out hB hj, if_pos rfl]

set_option maxHeartbeats 2000000 in
theorem rtotal_at (w : World) (s c : Int) (f : Nat → Int) (B : Nat) (hr : right s c) (hc : c = 1 ∨ c = 2) (hBn : Hid (bandsF s c = B)) (hBs : (B : Int) = s + 3) (h3 : 3 ≤ B) (h5 : B ≤ 5) (hf : Hid (∀ i, i < 5 → (Lit.int .i64 (f i)).wf = true)) :
    Calls Tryd.prog 17 #[.int .i64 s, .int .i64 c, .agg (row5 f)] w fun e w' => e = .returned (.int .i64 (aTot s c f)) ∧ Below w.heap.size w w' := by
  have HTY : Hid (aOk s c f 5 = true → aTot s c f = aPr f B * c) := fun h => by unfold aTot; rw [if_pos ⟨hr, h⟩, hBn.out]; rfl
  have HTN : Hid (aOk s c f 5 = false → aTot s c f = -1) := fun h => by unfold aTot; rw [if_neg (fun e => by rw [h] at e; cases e.2)]
  have s0 : 0 ≤ s ∧ s < 3 := by unfold right at hr; omega
  have HR0 : Hid (Rw (w.alloc (.cells (row5 f) 25)) w.heap.size f) := Rw.new w f
  have HB0 : Hid (Below w.heap.size w (w.alloc (.cells (row5 f) 25))) := gN_below (gN_alloc (gN_refl w) _)
  have HBA : Hid (∀ w, Calls Tryd.prog 15 #[.int .i64 s] w fun e w' => e = .returned (.int .i64 (B : Int)) ∧ w' = w) := fun w => by
    have := rbands_any s w s0.1 s0.2
    rw [← hBs] at this
    exact this
  go_enter Tryd.func17, Tryd.ntmps17
  go_wp2_with fail
  go_loopw [7, 8] (fun v i wr => ∃ j : Nat, j ≤ 5 ∧ i = .int .i64 j ∧ v = .int .i64 (aPr f (min j B) * c) ∧ Hid (aOk s c f j = true) ∧ Hid (Rw wr w.heap.size f) ∧ Hid (Below w.heap.size w wr)) (fun _ i _ => 5 - (intOf i).toNat)
  case atStart => exact ⟨0, by omega, rfl, by rw [Nat.zero_min]; show _ = Value.int _ (0 * c); rw [Int.zero_mul], rfl, HR0, HB0⟩
  case round =>
    clear HR0 HB0
    obtain ⟨j, hj, rfl, rfl, HO, HR, HB⟩ := hrel
    by_cases hlt : j < 5
    · have hlt' : (j : Int) < 5 := by omega
      have j0 : (0 : Int) ≤ (j : Int) := by omega
      have c3 := HR.out.cell (i := j) hlt
      by_cases hjB : j < B
      · have hjB' : ¬ (B : Int) ≤ (j : Int) := by omega
        have HOK : Hid _ := ok_in hBn.out hjB h5 HO.out
        have e1 : min j B = j := by omega
        have e2 : min (j + 1) B = j + 1 := by omega
        have HA : Hid (aPr f (j + 1) = aPr f j + btI (widF j) (f j)) := rfl
        have hpb := pr_bd (k := f) j
        have hbb := btI_bd (widF j) (f j)
        have HBI : Hid (∀ w, Calls Tryd.prog 29 #[.int .i64 (widF j), .int .i64 (f j)] w fun e w' => e = .returned (.int .i64 (btI (widF j) (f j))) ∧ Below w.heap.size w w') := fun w => rbits_any w _ _
        rw [e1]
        obtain ⟨x, hx⟩ : ∃ x, btI (widF j) (f j) = x := ⟨_, rfl⟩
        rw [hx] at HOK HA hbb HBI
        clear hx
        generalize aPr f j = P at *
        by_cases hx : x < 0
        · have hx1 : x = -1 := by omega
          have HOF : Hid (aOk s c f (j + 1) = false) := by show _ = _; rw [HOK.out]; exact decide_eq_false (by omega)
          go_wp2_with (first
            | (go_at_call 15; refine (HBA.out _).mono ?_; rintro e w1 ⟨rfl, hw⟩; obtain rfl := hw.symm; clear hw)
            | (go_at_call 25; refine (rband_any j _ hlt).mono ?_; rintro e w1 ⟨rfl, hw⟩; obtain rfl := hw.symm; clear hw)
            | (go_at_call 29; refine (HBI.out _).mono ?_; rintro e w2 ⟨rfl, hb2⟩; have HB2 : Hid (Below w.heap.size w w2) := HB.out.trans (hb2.mono HB.out.size); clear hb2))
          go_returns
          exact ⟨by rw [HTN.out (ok_less HOF.out (by omega))]; rfl, HB2.out⟩
        · have HOT : Hid (aOk s c f (j + 1) = true) := by show _ = _; rw [HOK.out]; exact decide_eq_true (by omega)
          have HSS : Hid (aPr f (j + 1) * c = P * c + x * c) := by show _ = _; rw [HA.out, Int.add_mul]
          have hP : -5 ≤ P ∧ P ≤ 205 := by omega
          rcases hc with rfl | rfl
          · go_wp2_with (first
              | (go_at_call 15; refine (HBA.out _).mono ?_; rintro e w1 ⟨rfl, hw⟩; obtain rfl := hw.symm; clear hw)
              | (go_at_call 25; refine (rband_any j _ hlt).mono ?_; rintro e w1 ⟨rfl, hw⟩; obtain rfl := hw.symm; clear hw)
              | (go_at_call 29; refine (HBI.out _).mono ?_; rintro e w2 ⟨rfl, hb2⟩; have HB2 : Hid (Below w.heap.size w w2) := HB.out.trans (hb2.mono HB.out.size); have HR2 : Hid (Rw w2 w.heap.size f) := HR.out.below hb2; clear hb2))
            go_roundw
            case rel => exact ⟨j + 1, by omega, by go_num, by first | (rw [e2, HSS.out]; done) | (rw [e2, HSS.out]; go_num), HOT, HR2, HB2⟩
            case measure => simp [intOf]; omega
          · go_wp2_with (first
              | (go_at_call 15; refine (HBA.out _).mono ?_; rintro e w1 ⟨rfl, hw⟩; obtain rfl := hw.symm; clear hw)
              | (go_at_call 25; refine (rband_any j _ hlt).mono ?_; rintro e w1 ⟨rfl, hw⟩; obtain rfl := hw.symm; clear hw)
              | (go_at_call 29; refine (HBI.out _).mono ?_; rintro e w2 ⟨rfl, hb2⟩; have HB2 : Hid (Below w.heap.size w w2) := HB.out.trans (hb2.mono HB.out.size); have HR2 : Hid (Rw w2 w.heap.size f) := HR.out.below hb2; clear hb2))
            go_roundw
            case rel => exact ⟨j + 1, by omega, by go_num, by first | (rw [e2, HSS.out]; done) | (rw [e2, HSS.out]; go_num), HOT, HR2, HB2⟩
            case measure => simp [intOf]; omega
      · have hjB' : (B : Int) ≤ (j : Int) := by omega
        have HOK : Hid _ := ok_out hBn.out hjB HO.out
        have e1 : min j B = min (j + 1) B := by omega
        by_cases hz : f j = 0
        · have HOT : Hid (aOk s c f (j + 1) = true) := by show _ = _; rw [HOK.out]; exact decide_eq_true hz
          go_wp2_with (go_at_call 15; refine (HBA.out _).mono ?_; rintro e w1 ⟨rfl, hw⟩; obtain rfl := hw.symm; clear hw)
          go_roundw
          case rel => exact ⟨j + 1, by omega, by go_num, by first | rfl | rw [e1], HOT, HR, HB⟩
          case measure => simp [intOf]; omega
        · have HOF : Hid (aOk s c f (j + 1) = false) := by show _ = _; rw [HOK.out]; exact decide_eq_false hz
          go_wp2_with (go_at_call 15; refine (HBA.out _).mono ?_; rintro e w1 ⟨rfl, hw⟩; obtain rfl := hw.symm; clear hw)
          go_returns
          exact ⟨by rw [HTN.out (ok_less HOF.out (by omega))]; rfl, HB.out⟩
    · obtain rfl : j = 5 := by omega
      have e1 : min 5 B = B := by omega
      have HTF : Hid (aTot s c f = aPr f (min 5 B) * c) := by show _ = _; rw [e1]; exact HTY.out HO.out
      go_wp2
      go_returns
      exact ⟨by rw [HTF.out]; rfl, HB.out⟩
theorem rtotal_any (w : World) (s c : Int) (f : Nat → Int) (hr : right s c) (hf : Hid (∀ i, i < 5 → (Lit.int .i64 (f i)).wf = true)) :
    Calls Tryd.prog 17 #[.int .i64 s, .int .i64 c, .agg (row5 f)] w fun e w' => e = .returned (.int .i64 (aTot s c f)) ∧ Below w.heap.size w w' := by
  obtain ⟨B, h1, h2, h3, h5⟩ := bands_nat hr
  exact rtotal_at w s c f B hr (by unfold right at hr; omega) h1 (by omega) h3 h5 hf

theorem below_refl_of {F : Nat} {args : Array Value} {w : World} {v : Value} (h : Calls Tryd.prog F args w fun e w' => e = .returned v ∧ w' = w) : Calls Tryd.prog F args w fun e w' => e = .returned v ∧ Below w.heap.size w w' :=
  h.mono fun e w' hw => ⟨hw.1, by rw [hw.2]; exact Below.refl _ _⟩

set_option maxHeartbeats 4000000 in
theorem atotals_law (s c : Int) (f : Nat → Int) (w : World) (hf : Hid (∀ i, i < 5 → (Lit.int .i64 (f i)).wf = true)) (hT : Hid (WTab w)) :
    Calls Tryd.prog 4 #[.int .i64 s, .int .i64 c, .agg (row5 f)] w fun e w' => e = .returned (.bool true) ∧ Below w.heap.size w w' := by
  obtain ⟨T, hTT⟩ : ∃ T, aTot s c f = T := ⟨_, rfl⟩
  have HTT : Hid (aTot s c f = T) := hTT
  clear hTT
  have HR : Hid (Rw (w.alloc (.cells (row5 f) 25)) w.heap.size f) := Rw.new w f
  have HTA : Hid (WTab (w.alloc (.cells (row5 f) 25))) := hT.out.grown (gN_alloc (gN_refl w) _)
  have HA : Hid (Below w.heap.size w (w.alloc (.cells (row5 f) 25))) := gN_below (gN_alloc (gN_refl w) _)
  go_enter Tryd.func4, Tryd.ntmps4
  go_wp2_with fail
  refine (awake14 _ HTA).mono ?_
  rintro e w0 ⟨rfl, hb0⟩
  have HR1 : Hid (Rw (w0.alloc (.cells #[.int .i64 s, .int .i64 c] 30)) w.heap.size f) := (HR.out.below hb0).alloc _
  have HM1 : Hid (Md (w0.alloc (.cells #[.int .i64 s, .int .i64 c] 30)) w0.heap.size s c) := Md.new w0 s c
  have HB1 : Hid (Below w.heap.size w (w0.alloc (.cells #[.int .i64 s, .int .i64 c] 30))) := (HA.out.trans (hb0.mono HA.out.size)).alloc (HA.out.trans (hb0.mono HA.out.size)).size _
  have HT1 : Hid (WTab (w0.alloc (.cells #[.int .i64 s, .int .i64 c] 30))) := hT.out.below HB1.out
  have hlt0 : w.heap.size < w0.heap.size := Nat.lt_of_lt_of_le HR.out.lt hb0.size
  clear hb0 HR HTA HA
  go_upto_region 4 with fail
  generalize w0.alloc (.cells #[.int .i64 s, .int .i64 c] 30) = w1 at *
  have c0 := HM1.out.cs
  have c1 := HM1.out.cc
  have r0 := HR1.out.cell (i := 0) (by omega)
  have r1 := HR1.out.cell (i := 1) (by omega)
  have r2 := HR1.out.cell (i := 2) (by omega)
  have r3 := HR1.out.cell (i := 3) (by omega)
  have r4 := HR1.out.cell (i := 4) (by omega)
  have hl1 := HM1.out.lt
  have hl2 := HR1.out.lt
  have HTC : Hid (∀ X b, Bk X b none → WTab X → Calls Tryd.prog 13 #[.pointer (some ⟨b, 0, none⟩), (.agg #[.int .i64 (s), .int .i64 (c)]), .agg #[.int .i64 (f 0), .int .i64 (f 1), .int .i64 (f 2), .int .i64 (f 3), .int .i64 (f 4)]] X fun e w' => e = .returned (.int .i64 T) ∧ ∃ mo', Bk w' b mo' ∧ Gb X w' b none mo') := fun X b hB hT => by
    have := total_any X b none s c f hf hB hT
    rw [HTT.out] at this
    exact this
  generalize w0.heap.size = g at *
  go_region_held3 (fun w' => w'.cell? ⟨g, 0, none⟩ = some (.int .i64 s) ∧ w'.cell? ⟨g, 1, none⟩ = some (.int .i64 c) ∧ w'.cell? ⟨w.heap.size, 0, none⟩ = some (.int .i64 (f 0)) ∧ w'.cell? ⟨w.heap.size, 1, none⟩ = some (.int .i64 (f 1)) ∧ w'.cell? ⟨w.heap.size, 2, none⟩ = some (.int .i64 (f 2)) ∧ w'.cell? ⟨w.heap.size, 3, none⟩ = some (.int .i64 (f 3)) ∧ w'.cell? ⟨w.heap.size, 4, none⟩ = some (.int .i64 (f 4))) (first | with_reducible exact ⟨c0, c1, r0, r1, r2, r3, r4⟩ | exact ⟨c0, c1, r0, r1, r2, r3, r4⟩ | exact ⟨d0, d1, p0, p1, p2, p3, p4⟩ | exact ⟨e0, e1, q0, q1, q2, q3, q4⟩) ((first
    | (go_at_call 10; refine (newb_calls _).mono ?_; rintro e w2 ⟨b, rfl, hB2, hb2, hle⟩; have HBK2 : Hid (Bk w2 b none) := hB2; have HY2 : Hid (Below w1.heap.size w1 w2) := ⟨hb2.os, hb2.tape, hb2.output, hb2.size, hb2.block⟩; have HM2 : Hid (Md w2 g s c) := HM1.out.below HY2.out; have HR2 : Hid (Rw w2 w.heap.size f) := HR1.out.below HY2.out; have hle2 : w1.heap.size ≤ b := hle; have d0 := HM2.out.cs; have d1 := HM2.out.cc; have p0 := HR2.out.cell (i := 0) (by omega); have p1 := HR2.out.cell (i := 1) (by omega); have p2 := HR2.out.cell (i := 2) (by omega); have p3 := HR2.out.cell (i := 3) (by omega); have p4 := HR2.out.cell (i := 4) (by omega); clear hB2 hb2 hle)
    | (go_at_call 13; refine (HTC.out _ b HBK2.out (HT1.out.below HY2.out)).mono ?_; rintro e w3 ⟨rfl, mo3, hB3, hG3⟩; have hk := Kp.gb HBK2.out hG3; have HM3 : Hid (Md w3 g s c) := HM2.out.kp hk (by omega); have HR3 : Hid (Rw w3 w.heap.size f) := HR2.out.kp hk (by omega); have HY3 : Hid (Below w.heap.size w w3) := HB1.out.trans ((below_book HY2.out hle2 hG3).mono HB1.out.size); have e0 := HM3.out.cs; have e1 := HM3.out.cc; have q0 := HR3.out.cell (i := 0) (by omega); have q1 := HR3.out.cell (i := 1) (by omega); have q2 := HR3.out.cell (i := 2) (by omega); have q3 := HR3.out.cell (i := 3) (by omega); have q4 := HR3.out.cell (i := 4) (by omega); clear hB3 hG3 hk)))
  clear HTC HBK2 HY2 HM2 HR2 HM1 HR1 HT1 HB1 c0 c1 r0 r1 r2 r3 r4 d0 d1 p0 p1 p2 p3 p4
  have HT3 : Hid (WTab w3) := hT.out.below HY3.out
  by_cases hr : right s c
  · have HRR : Hid (decide (right s c) = true) := decide_eq_true hr
    obtain ⟨B, hB1, hB2, _, h5⟩ := bands_nat hr
    have s0 : 0 ≤ s ∧ s < 3 := by unfold right at hr; omega
    have HBA : Hid (∀ w, Calls Tryd.prog 15 #[.int .i64 s] w fun e w' => e = .returned (.int .i64 (B : Int)) ∧ Below w.heap.size w w') := fun w => by
      have := rbands_any s w s0.1 s0.2
      rw [show s + 3 = (B : Int) by omega] at this
      exact below_refl_of this
    have HRT : Hid (∀ X, Calls Tryd.prog 17 #[.int .i64 s, .int .i64 c, .agg #[.int .i64 (f 0), .int .i64 (f 1), .int .i64 (f 2), .int .i64 (f 3), .int .i64 (f 4)]] X fun e w' => e = .returned (.int .i64 T) ∧ Below X.heap.size X w') := fun X => by
      have := rtotal_any X s c f hr hf
      rw [HTT.out] at this
      exact this
    have hlg : g < w3.heap.size := HM3.out.lt
    have hlw : w.heap.size < w3.heap.size := HR3.out.lt
    have HBB : Hid (bandsF s c = B) := hB1
    clear hB2 hB1
    go_wp2_with (go_at_call 11; refine (rright_any s c _).mono ?_; rw [HRR.out]; rintro e w4 ⟨rfl, hw⟩; obtain rfl := hw.symm; clear hw)
    by_cases h0 : 0 ≤ f 1
    · have h0' : decide (f 1 < 0) = false := decide_eq_false (by omega)
      have h0'' : decide (0 ≤ f 1) = true := decide_eq_true h0
      by_cases h1 : f 1 < (B : Int)
      · have h1' : decide (f 1 < (B : Int)) = true := decide_eq_true h1
        obtain ⟨i, hi⟩ : ∃ i : Nat, f 1 = i := ⟨(f 1).toNat, by omega⟩
        have HI : Hid (f 1 = (i : Int)) := hi
        have HSL : Hid (aSlI s c (f 0) (f 1) = aSl (f 0) i) := by
          show _ = _
          unfold aSlI
          rw [if_pos ⟨h0, by rw [HBB.out]; exact h1⟩, hi]; rfl
        have hi5 : i < 5 := by omega
        have HRS : Hid (∀ w, Calls Tryd.prog 16 #[.int .i64 (f 0), .int .i64 (f 1)] w fun e w' => e = .returned (.int .i64 (aSl (f 0) i)) ∧ w' = w) := fun w => by
          rw [hi]
          exact rslope_any w (f 0) i hi5
        clear hi
        refine wp_region_quiet_below (by kernel_rfl) (by kernel_rfl) ?_
        repeat (go_big_quiet_step ((go_at_call 15; refine Calls.regrown_of (HBA.out _))))
        refine wpQuiet_nil ?_
        intro _ hw'
        obtain ⟨⟨dq, osq⟩, hw''⟩ := hw'
        subst hw''
        have HM4 : Hid (Md (grow (redrawn w3 dq) osq) g s c) := HM3.out.below (below_gr (Below.refl _ _) (Nat.le_refl _) _ _)
        have HR4 : Hid (Rw (grow (redrawn w3 dq) osq) w.heap.size f) := HR3.out.below (below_gr (Below.refl _ _) (Nat.le_refl _) _ _)
        have HY4 : Hid (Below w.heap.size w (grow (redrawn w3 dq) osq)) := HY3.out.trans (below_gr (Below.refl _ _) (Nat.le_refl _) _ _ |>.mono HY3.out.size)
        clear e0 e1 q0 q1 q2 q3 q4 HM3 HR3
        generalize grow (redrawn w3 dq) osq = w4 at *
        have e0 := HM4.out.cs
        have e1 := HM4.out.cc
        have q0 := HR4.out.cell (i := 0) (by omega)
        have q1 := HR4.out.cell (i := 1) (by omega)
        have q2 := HR4.out.cell (i := 2) (by omega)
        have q3 := HR4.out.cell (i := 3) (by omega)
        have q4 := HR4.out.cell (i := 4) (by omega)
        go_wp2_with (go_at_call 16; refine (HRS.out _).mono ?_; rintro e w9 ⟨rfl, hw⟩; obtain rfl := hw.symm; clear hw)
        refine (HRT.out _).mono ?_
        rintro e w5 ⟨rfl, hb5⟩
        have HM5 : Hid (Md w5 g s c) := HM4.out.below hb5
        have HR5 : Hid (Rw w5 w.heap.size f) := HR4.out.below hb5
        have HY5 : Hid (Below w.heap.size w w5) := HY4.out.trans (hb5.mono HY4.out.size)
        have HT5 : Hid (WTab w5) := hT.out.below HY5.out
        clear hb5 e0 e1 q0 q1 q2 q3 q4 HM4 HR4
        have e0 := HM5.out.cs
        have e1 := HM5.out.cc
        have q0 := HR5.out.cell (i := 0) (by omega)
        have q1 := HR5.out.cell (i := 1) (by omega)
        go_wp2_with (go_at_call 14; refine (slope_any _ s c _ _ HT5.out).mono ?_; rw [HSL.out]; rintro e w6 ⟨rfl, hb6⟩; have HX6 : Hid (Below w.heap.size w w6) := HY5.out.trans (hb6.mono HY5.out.size); clear hb6)
        go_returns
        exact ⟨rfl, HX6.out⟩
      · have h1' : decide (f 1 < (B : Int)) = false := decide_eq_false h1
        have HSL : Hid (aSlI s c (f 0) (f 1) = 0) := if_neg (fun e => h1 (by have := e.2; rw [HBB.out] at this; exact this))
        refine wp_region_quiet_below (by kernel_rfl) (by kernel_rfl) ?_
        repeat (go_big_quiet_step ((go_at_call 15; refine Calls.regrown_of (HBA.out _))))
        refine wpQuiet_nil ?_
        intro _ hw'
        obtain ⟨⟨dq, osq⟩, hw''⟩ := hw'
        subst hw''
        have HM4 : Hid (Md (grow (redrawn w3 dq) osq) g s c) := HM3.out.below (below_gr (Below.refl _ _) (Nat.le_refl _) _ _)
        have HR4 : Hid (Rw (grow (redrawn w3 dq) osq) w.heap.size f) := HR3.out.below (below_gr (Below.refl _ _) (Nat.le_refl _) _ _)
        have HY4 : Hid (Below w.heap.size w (grow (redrawn w3 dq) osq)) := HY3.out.trans (below_gr (Below.refl _ _) (Nat.le_refl _) _ _ |>.mono HY3.out.size)
        clear e0 e1 q0 q1 q2 q3 q4 HM3 HR3
        generalize grow (redrawn w3 dq) osq = w4 at *
        have e0 := HM4.out.cs
        have e1 := HM4.out.cc
        have q0 := HR4.out.cell (i := 0) (by omega)
        have q1 := HR4.out.cell (i := 1) (by omega)
        have q2 := HR4.out.cell (i := 2) (by omega)
        have q3 := HR4.out.cell (i := 3) (by omega)
        have q4 := HR4.out.cell (i := 4) (by omega)
        go_wp2_with fail
        refine (HRT.out _).mono ?_
        rintro e w5 ⟨rfl, hb5⟩
        have HM5 : Hid (Md w5 g s c) := HM4.out.below hb5
        have HR5 : Hid (Rw w5 w.heap.size f) := HR4.out.below hb5
        have HY5 : Hid (Below w.heap.size w w5) := HY4.out.trans (hb5.mono HY4.out.size)
        have HT5 : Hid (WTab w5) := hT.out.below HY5.out
        clear hb5 e0 e1 q0 q1 q2 q3 q4 HM4 HR4
        have e0 := HM5.out.cs
        have e1 := HM5.out.cc
        have q0 := HR5.out.cell (i := 0) (by omega)
        have q1 := HR5.out.cell (i := 1) (by omega)
        go_wp2_with (go_at_call 14; refine (slope_any _ s c _ _ HT5.out).mono ?_; rw [HSL.out]; rintro e w6 ⟨rfl, hb6⟩; have HX6 : Hid (Below w.heap.size w w6) := HY5.out.trans (hb6.mono HY5.out.size); clear hb6)
        go_returns
        exact ⟨rfl, HX6.out⟩
    · have h0' : decide (0 ≤ f 1) = false := decide_eq_false h0
      have HSL : Hid (aSlI s c (f 0) (f 1) = 0) := if_neg (fun e => h0 e.1)
      refine wp_region_quiet_below (by kernel_rfl) (by kernel_rfl) ?_
      repeat (go_big_quiet_step ((go_at_call 15; refine Calls.regrown_of (HBA.out _))))
      refine wpQuiet_nil ?_
      intro _ hw'
      obtain ⟨⟨dq, osq⟩, hw''⟩ := hw'
      subst hw''
      have HM4 : Hid (Md (grow (redrawn w3 dq) osq) g s c) := HM3.out.below (below_gr (Below.refl _ _) (Nat.le_refl _) _ _)
      have HR4 : Hid (Rw (grow (redrawn w3 dq) osq) w.heap.size f) := HR3.out.below (below_gr (Below.refl _ _) (Nat.le_refl _) _ _)
      have HY4 : Hid (Below w.heap.size w (grow (redrawn w3 dq) osq)) := HY3.out.trans (below_gr (Below.refl _ _) (Nat.le_refl _) _ _ |>.mono HY3.out.size)
      clear e0 e1 q0 q1 q2 q3 q4 HM3 HR3
      generalize grow (redrawn w3 dq) osq = w4 at *
      have e0 := HM4.out.cs
      have e1 := HM4.out.cc
      have q0 := HR4.out.cell (i := 0) (by omega)
      have q1 := HR4.out.cell (i := 1) (by omega)
      have q2 := HR4.out.cell (i := 2) (by omega)
      have q3 := HR4.out.cell (i := 3) (by omega)
      have q4 := HR4.out.cell (i := 4) (by omega)
      go_wp2_with fail
      refine (HRT.out _).mono ?_
      rintro e w5 ⟨rfl, hb5⟩
      have HM5 : Hid (Md w5 g s c) := HM4.out.below hb5
      have HR5 : Hid (Rw w5 w.heap.size f) := HR4.out.below hb5
      have HY5 : Hid (Below w.heap.size w w5) := HY4.out.trans (hb5.mono HY4.out.size)
      have HT5 : Hid (WTab w5) := hT.out.below HY5.out
      clear hb5 e0 e1 q0 q1 q2 q3 q4 HM4 HR4
      have e0 := HM5.out.cs
      have e1 := HM5.out.cc
      have q0 := HR5.out.cell (i := 0) (by omega)
      have q1 := HR5.out.cell (i := 1) (by omega)
      go_wp2_with (go_at_call 14; refine (slope_any _ s c _ _ HT5.out).mono ?_; rw [HSL.out]; rintro e w6 ⟨rfl, hb6⟩; have HX6 : Hid (Below w.heap.size w w6) := HY5.out.trans (hb6.mono HY5.out.size); clear hb6)
      go_returns
      exact ⟨rfl, HX6.out⟩
  · have HRR : Hid (decide (right s c) = false) := decide_eq_false hr
    have HT1 : T = -1 := by rw [← HTT.out]; exact if_neg (fun e => hr e.1)
    have HSL : Hid (∀ t b, aSlI s c t b = 0) := fun t b => if_neg (fun e => by have := e.1; have h2 := e.2; unfold bandsF at h2; rw [if_neg hr] at h2; omega)
    subst HT1
    go_wp2_with (first
      | (go_at_call 11; refine (rright_any s c _).mono ?_; rw [HRR.out]; rintro e w4 ⟨rfl, hw⟩; obtain rfl := hw.symm; clear hw)
      | (go_at_call 14; refine (slope_any _ s c _ _ HT3).mono ?_; rw [HSL.out]; rintro e w4 ⟨rfl, hb4⟩; have HX4 : Hid (Below w.heap.size w w4) := HY3.out.trans (hb4.mono HY3.out.size); clear hb4))
    go_returns
    exact ⟨rfl, HX4.out⟩
end Go.Proofs.YthlbilfdeneajaaDoor
