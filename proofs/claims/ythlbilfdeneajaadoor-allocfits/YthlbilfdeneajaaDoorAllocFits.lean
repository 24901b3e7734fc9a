/-
  The law AllocFits of layer 14 (alloc) as a walk: called at any input it returns true, and nothing that was there has turned.
-/
import Derived.Test.YthlbilfdeneajaaDoorAllocBegin
import Derived.Test.YthlbilfdeneajaaDoorCostRef2
import Derived.Deep.CutBlock
import Derived.Lib.QuietBelow
import Derived.BigQuiet
namespace Go.Proofs.YthlbilfdeneajaaDoor
set_option linter.unusedVariables false
open Go.ChangeShapes Go.WideShapes Go.ChangeAt Go.RowKit
open Go.Sort (grow)
attribute [local go_sem] cell?_gr frozen?_gr setCell_gr size_gr drew_gr drewN_gr redrawn_drew redrawn_drewN redrawn_redrawn gr_gr

theorem fit_wf {B : Nat} (hB : B ≤ 5) {k : Nat → Int} (h : Fit B k) : ∀ i, i < 5 → (Lit.int .i64 (k i)).wf = true := fun i hi => by
  have := fit_32 hB h i hi
  exact WalkArith.wf_i64 (by omega)
theorem st_tot {w X : World} {s c t n : Int} {b : Nat} (s1 c1 : Int) (f : Nat → Int) (hf : Hid (∀ i, i < 5 → (Lit.int .i64 (f i)).wf = true)) (h : St w X s c t n b) : Calls Tryd.prog 13 #[.pointer (some ⟨b, 0, none⟩), (.agg #[.int .i64 (s1), .int .i64 (c1)]), .agg (row5 f)] X fun e w' => e = .returned (.int .i64 (aTot s1 c1 f)) ∧ St w w' s c t n b ∧ Kp X w' b := by
  obtain ⟨mo, hB, hm⟩ := h.book
  refine (total_any X b mo s1 c1 f hf hB h.ini.tab).mono ?_
  rintro e w' ⟨rfl, mo', hB', hG⟩
  exact ⟨rfl, h.call hB hm hB' hG, Kp.gb hB hG⟩
/-- What is given costs no more than the budget. -/
theorem out_fits {B : Nat} (hB : B ≤ 5) {c t n : Int} (hc : c = 1 ∨ c = 2) {R : Nat → Int} (h : Out B c t n R) (hF : Fit B R) : 0 ≤ aPr R B * c ∧ (0 ≤ n → aPr R B * c ≤ n) ∧ (n < 0 → aPr R B * c = 0) := by
  have hp := pr_pos hB hF B (Nat.le_refl _)
  obtain ⟨j, e, h1, _⟩ := h
  have hz : j = 0 → aPr R B = 0 := fun e0 => by subst e0; rw [e]; exact pr_zero hB (fun _ _ => rfl)
  rcases hc with rfl | rfl
  · refine ⟨by omega, fun h0 => ?_, fun h0 => ?_⟩
    · rcases h1 with h1 | h1
      · rw [hz h1]; omega
      · omega
    · rcases h1 with h1 | h1
      · rw [hz h1]; omega
      · omega
  · refine ⟨by omega, fun h0 => ?_, fun h0 => ?_⟩
    · rcases h1 with h1 | h1
      · rw [hz h1]; omega
      · omega
    · rcases h1 with h1 | h1
      · rw [hz h1]; omega
      · omega

set_option maxRecDepth 4000 in
set_option maxHeartbeats 4000000 in
theorem afits_law (s c t n : Int) (w : World) (n1 : -9223372036854775808 ≤ n) (n2 : n ≤ 9223372036854775807) (hT : Hid (WTab w)) :
    Calls Tryd.prog 5 #[.agg #[.int .i64 s, .int .i64 c, .int .i64 t, .int .i64 n]] w fun e w' => e = .returned (.bool true) ∧ Below w.heap.size w w' := by
  obtain ⟨B, hB0, hB3, hB5⟩ := rt_bands s c
  have HBN : Hid (bandsF (rtS s) (rtC c) = B) := hB0
  clear hB0
  go_enter Tryd.func5, Tryd.ntmps5
  go_wp2_with fail
  refine (awake14 _ (hT.out.below (by go_grown))).mono ?_
  rintro e w0 ⟨rfl, hb0⟩
  have HY0 : Hid (Below w.heap.size w w0) := below_al hb0
  have HA0 : Hid (AskAt w0 w.heap.size s c t n) := (AskAt.new w s c t n).below hb0
  have hs0 : w.heap.size < w0.heap.size := HA0.out.lt
  have HT0 : Hid (WTab w0) := hT.out.below HY0.out
  clear hb0
  have a0 := HA0.out.c0
  have a1 := HA0.out.c1
  have a2 := HA0.out.c2
  have a3 := HA0.out.c3
  go_upto_region 3 with fail
  have hn0 : ¬ w.heap.size = w0.heap.size := Nat.ne_of_lt hs0
  have hn0' : ¬ w0.heap.size = w.heap.size := Nat.ne_of_gt hs0
  have HI : Hid (Ini w w0 s c t n) := ⟨HA0.out, HY0.out, HT0.out⟩
  go_cut [3, 4] (fun p q wc => ∃ b g : Nat, p = .pointer (some ⟨b, 0, none⟩) ∧ q = .pointer (some ⟨g, 0, none⟩) ∧ Hid (St w wc s c t n b) ∧ Hid (Md wc g (rtS s) (rtC c)) ∧ g ≠ b)
  case first =>
    go_region_held3 (fun w' => w'.cell? ⟨w.heap.size, 0, none⟩ = some (.int .i64 s) ∧ w'.cell? ⟨w.heap.size, 1, none⟩ = some (.int .i64 c) ∧ w'.cell? ⟨w.heap.size, 2, none⟩ = some (.int .i64 t) ∧ w'.cell? ⟨w.heap.size, 3, none⟩ = some (.int .i64 n)) (first | exact ⟨a0, a1, a2, a3⟩ | exact ⟨b0, b1, b2, b3⟩ | exact ⟨c0, c1, c2, c3⟩ | go_keep | (simp [go_sem]; done)) ((first
      | (go_at_call 10; refine (st_new (by first | exact HI.out | exact HI.out.drewN _ | exact (HI.out.drewN _).alloc _ | exact HI.out.alloc _ | exact (HI.out.alloc _).drewN _)).mono ?_; rintro e w1 ⟨b, rfl, hS1, hK1, hle1⟩; have HS1 : Hid (St w w1 s c t n b) := hS1; have hs1 := hS1.al; have hn1 : ¬ w.heap.size = w1.heap.size := Nat.ne_of_lt hs1; have hn1' : ¬ w1.heap.size = w.heap.size := Nat.ne_of_gt hs1; have b0 := hS1.ini.ask.c0; have b1 := hS1.ini.ask.c1; have b2 := hS1.ini.ask.c2; have b3 := hS1.ini.ask.c3; (first | (have hm1 : Md _ w0.heap.size 0 0 ∧ _ := ⟨Md.new _ 0 0, hK1⟩; have HZ1 : Hid (Md w1 w0.heap.size 0 0) := Md.kq hm1.1 hK1; have hgb : w0.heap.size ≠ b := Nat.ne_of_lt (Nat.lt_of_lt_of_le hm1.1.lt hle1); clear hm1) | (have HZ1 : Hid (Md w1 w0.heap.size 0 0) := Md.kq ((Md.new _ 0 0).drewN 1) hK1; have hgb : w0.heap.size ≠ b := Nat.ne_of_lt (Nat.lt_of_lt_of_le (Md.lt ((Md.new w0 0 0).drewN 1)) hle1)) | skip); clear hS1 hK1 hle1)
      | (go_at_call 18; refine (st_rt (w := w) (by first | exact HS1.out | exact HS1.out.drewN _ | exact (HS1.out.drewN _).alloc _ | exact HS1.out.alloc _ | exact (HS1.out.alloc _).drewN _)).mono ?_; rintro e w2 ⟨rfl, hS2, hK2⟩; have HS2 : Hid (St w w2 s c t n b) := hS2; have hs2 := hS2.al; have c0 := hS2.ini.ask.c0; have c1 := hS2.ini.ask.c1; have c2 := hS2.ini.ask.c2; have c3 := hS2.ini.ask.c3; (first | (have HZ2 : Hid (Md w2 w1.heap.size 0 0) := (by first | exact Md.kq (Md.new _ 0 0) hK2 | exact Md.kq ((Md.new _ 0 0).drewN _) hK2); have z0 := HZ2.out.cs; have z1 := HZ2.out.cc; have zf := HZ2.out.fz; have hgb2 : w1.heap.size ≠ b := Nat.ne_of_gt HS1.out.bl) | (have HZ3 : Hid (Md w2 w0.heap.size 0 0) := (by first | exact Md.kq (HZ1.out.drewN _) hK2 | exact Md.kq HZ1.out hK2); have z0 := HZ3.out.cs; have z1 := HZ3.out.cc; have zf := HZ3.out.fz) | skip); clear hS2 hK2)))
    all_goals (try go_wp2)
    all_goals go_meet
    all_goals (first
      | exact ⟨b, w2.heap.size, rfl, rfl, HS2.out.alloc _, Md.new w2 _ _, Nat.ne_of_gt HS2.out.bl⟩
      | exact ⟨b, w1.heap.size, rfl, rfl, HS2.out.put hT.out HZ2.out hs1 hgb2 _ _, HZ2.out.put _ _, hgb2⟩
      | exact ⟨b, w0.heap.size, rfl, rfl, HS2.out.put hT.out HZ3.out hs0 hgb _ _, HZ3.out.put _ _, hgb⟩)
  case rest =>
    clear HI a0 a1 a2 a3 HA0 HT0 hs0 hn0 hn0' HY0
    obtain ⟨b, g, rfl, rfl, HS, HM, hg⟩ := hcut
    have a0 := HS.out.ini.ask.c2
    have a1 := HS.out.ini.ask.c3
    have a2 := HM.out.cs
    have a3 := HM.out.cc
    have hcc : rtC c = 1 ∨ rtC c = 2 := by have := rt_right s c; unfold right at this; omega
    have hrr := rt_right s c
    go_upto_region 5 with (go_at_call 9; refine (st_all (w := w) _ _ t n B HBN hB5 (by first | with_reducible exact HS.out | with_reducible exact HS.out.alloc _ | with_reducible exact (HS.out.alloc _).alloc _ | with_reducible exact HS.out.drew | with_reducible exact HS.out.drew.alloc _ | with_reducible exact (HS.out.drew.alloc _).alloc _ | with_reducible exact (HS.out.alloc _).drew | with_reducible exact ((HS.out.alloc _).alloc _).drew)).mono ?_; rintro e w3 ⟨R, rfl, hO, hF, hS3, hK3⟩; have hst := store5_new w3 R)
    have HS4 : Hid (St w (w3.alloc (.cells (row5 R) 25)) s c t n b) := hS3.alloc _
    have HM4 : Hid (Md (w3.alloc (.cells (row5 R) 25)) g (rtS s) (rtC c)) := (HM.out.kp hK3 hg).alloc _
    have HR4 : Hid (Rw (w3.alloc (.cells (row5 R) 25)) w3.heap.size R) := Rw.new w3 R
    have hg5 : w3.heap.size ≠ b := Nat.ne_of_gt hS3.bl
    have hgg : w.heap.size < w3.heap.size := hS3.al
    have hgn : g ≠ w3.heap.size := Nat.ne_of_lt (HM.out.kp hK3 hg).lt
    have HO : Hid (Out B (rtC c) t n R) := hO
    have HF : Hid (Fit B R) := hF
    clear hst hO hF hS3 hK3 a0 a1 a2 a3 HS HM
    generalize w3.alloc (.cells (row5 R) 25) = w4 at *
    generalize w3.heap.size = g5 at *
    have a0 := HS4.out.ini.ask.c2
    have a1 := HS4.out.ini.ask.c3
    have a2 := HM4.out.cs
    have a3 := HM4.out.cc
    have HW : Hid (∀ i, i < 5 → (Lit.int .i64 (R i)).wf = true) := fit_wf hB5 HF.out
    obtain ⟨p0, p1, p2⟩ := out_fits hB5 hcc HO.out HF.out
    have HTT : Hid (aTot (rtS s) (rtC c) R = aPr R B * rtC c) := tot_fit hrr HBN.out hB5 HF.out
    obtain ⟨p, hp⟩ : ∃ p, aPr R B * rtC c = p := ⟨_, rfl⟩
    rw [hp] at p0 p1 p2 HTT
    have hpm : ¬ max n 0 < p := by omega
    have hpn : ¬ p < 0 := by omega
    have hpb : (0 ≤ n ∧ p ≤ n) ∨ (n < 0 ∧ p = 0) := by omega
    clear hp p1 p2
    go_upto_region 6 with (first
      | (refine wl_load5 rfl _ rfl g5 R rfl HR4.out ?_)
      | (go_at_call 13; refine (st_tot (w := w) _ _ R HW HS4.out).mono ?_; rw [HTT.out]; rintro e w5 ⟨rfl, hS5, hK5⟩))
    have HS5 : Hid (St w w5 s c t n b) := hS5
    have HM5 : Hid (Md w5 g (rtS s) (rtC c)) := HM4.out.kp hK5 hg
    have HR5 : Hid (Rw w5 g5 R) := HR4.out.kp hK5 hg5
    clear hS5 hK5 a0 a1 a2 a3 HS4 HM4 HR4
    have a0 := HS5.out.ini.ask.c2
    have a1 := HS5.out.ini.ask.c3
    have a2 := HM5.out.cs
    have a3 := HM5.out.cc
    have HL : Hid (Out B (rtC c) t n R ∧ ∀ i, aNx t capB R B = some i → n < rtC c * aPr (aMore R i) B) := ⟨HO.out, by obtain ⟨_, _, _, h⟩ := HO.out; exact h⟩
    go_cut [35] (fun v wd => v = .bool false ∧ w5 = wd)
    case first =>
      go_wp2_with fail
      all_goals (go_meet; exact ⟨by congr 1; rw [decide_eq_false (by omega), decide_eq_false (by omega)]; rfl, rfl⟩)
    case rest =>
    obtain ⟨rfl, rfl⟩ := hcut
    go_upto_region 8 with fail
    go_wp2_with fail
    go_loopw [7, 8, 9] (fun a l i wr => ∃ j : Nat, j ≤ B ∧ i = .int .i64 j ∧ ((Hid (aNx t capB R j = none) ∧ a = .int .i64 (-1) ∧ l = .int .i64 0) ∨ ∃ i0 : Nat, i0 < j ∧ Hid (aNx t capB R j = some i0) ∧ a = .int .i64 i0 ∧ l = .int .i64 (aLev t R i0)) ∧ Hid (St w wr s c t n b) ∧ Hid (Md wr g (rtS s) (rtC c)) ∧ Hid (Rw wr g5 R)) (fun _ _ i _ => B - (intOf i).toNat)
    case atStart => exact ⟨0, by omega, rfl, .inl ⟨rfl, rfl, rfl⟩, HS5, HM5, HR5⟩
    case round =>
      clear HS5 HM5 HR5 a0 a1 a2 a3
      obtain ⟨j, hj, rfl, hw, HS, HM, HR⟩ := hrel
      have b2 := HM.out.cs
      have b3 := HM.out.cc
      by_cases hlt : j < B
      · have hlt' : (j : Int) < (B : Int) := by omega
        have j0 : (0 : Int) ≤ (j : Int) := by omega
        have j5 : (j : Int) < 5 := by omega
        have HSL : Hid (aSlI (rtS s) (rtC c) t j = aSl t j) := by show _ = _; unfold aSlI; rw [if_pos (by unfold hasB; rw [HBN.out]; omega)]; rfl
        have HWJ : Hid (widthF (rtS s) (rtC c) j = widF j) := width_in HBN.out hlt
        have HCJ : Hid (capI (widF j) = capB j) := rfl
        have HWC : Hid (∀ X, WTab X → Calls Tryd.prog 21 #[(.agg #[.int .i64 (rtS s), .int .i64 (rtC c)]), .int .i64 j] X fun e w' => e = .returned (.int .i64 (widF j)) ∧ Below X.heap.size X w') := fun X h => by
          have := width_any (rtS s) (rtC c) j X h
          rw [HWJ.out] at this
          exact this
        have HCC : Hid (∀ X, Calls Tryd.prog 20 #[.int .i64 (widF j)] X fun e w' => e = .returned (.int .i64 (capB j)) ∧ Below X.heap.size X w') := fun X => rcap_any X (widF j)
        have HK := fit_32 hB5 HF.out j (by omega)
        have hlv := lev_bd (t := t) (k := R) (i := j) (by omega) HK.1 HK.2
        have HWR : Hid (IntKind.i64.wrap (IntKind.i64.wrap (R j + 1) * aSl t j) = aLev t R j) := by
          show _ = _
          rw [IntWalk.i64_in (R j + 1) (by omega)]
          exact IntWalk.i64_in _ (by unfold aLev at hlv; omega)
        go_upto_region 12 with (go_at_call 19; refine (bands_any _ _ _).mono ?_; rw [HBN.out]; rintro e w6 ⟨rfl, hb6⟩; have HS1 : Hid (St w w6 s c t n b) := HS.out.below hb6; have HM1 : Hid (Md w6 g (rtS s) (rtC c)) := HM.out.below hb6; have HR1 : Hid (Rw w6 g5 R) := HR.out.below hb6; have HT1 : Hid (WTab w6) := HS1.out.ini.tab; clear hb6)
        clear HS HM HR b2 b3
        have c0 := HS1.out.ini.ask.c2
        have c1 := HS1.out.ini.ask.c3
        have c2 := HM1.out.cs
        have c3 := HM1.out.cc
        have c4 := HR1.out.cell (i := j) (by omega)
        by_cases hc : R j < capB j
        · rcases hw with ⟨HN, rfl, rfl⟩ | ⟨i0, hi0, HN, rfl, rfl⟩
          · have HE : Hid (aNx t capB R (j + 1) = some j) := by show _ = _; rw [aNx, HN.out]; exact if_pos hc
            go_wp2
            go_region_held3 (fun w' => w'.cell? ⟨w.heap.size, 2, none⟩ = some (.int .i64 t) ∧ w'.cell? ⟨w.heap.size, 3, none⟩ = some (.int .i64 n) ∧ w'.cell? ⟨g, 0, none⟩ = some (.int .i64 (rtS s)) ∧ w'.cell? ⟨g, 1, none⟩ = some (.int .i64 (rtC c)) ∧ w'.cell? ⟨g5, j, none⟩ = some (.int .i64 (R j))) (first | exact ⟨e0, e1, e2, e3, e4⟩ | exact ⟨d0, d1, d2, d3, d4⟩ | exact ⟨c0, c1, c2, c3, c4⟩) ((first | (go_at_call 14; refine (slope_any _ _ _ _ _ ((HT1.out.drewN _))).mono ?_; rw [HSL.out]; rintro e w7 ⟨rfl, hb7⟩; have HS7 : Hid (St w w7 s c t n b) := (HS1.out.drewN _).below hb7; have HM7 : Hid (Md w7 g (rtS s) (rtC c)) := (HM1.out.drewN _).below hb7; have HR7 : Hid (Rw w7 g5 R) := (HR1.out.drewN _).below hb7; have HT7 : Hid (WTab w7) := HS7.out.ini.tab; have d0 := HS7.out.ini.ask.c2; have d1 := HS7.out.ini.ask.c3; have d2 := HM7.out.cs; have d3 := HM7.out.cc; have d4 := HR7.out.cell (i := j) (by omega); clear hb7)))
            rw [HWR.out]
            clear HS1 HM1 HR1 HT1 c0 c1 c2 c3 c4; have l0 := HM7.out.lt; have l1 := HR7.out.lt; have l2 := HS7.out.al
            go_wp2
            refine wp_region_quiet_below (by kernel_rfl) (by kernel_rfl) ?_; (repeat (go_big_quiet_step (first | (go_at_call 21; refine Calls.regrown_of (HWC.out _ (HT7.out.below (below_gr (Below.refl _ _) (Nat.le_refl _) _ _)))) | (go_at_call 20; refine Calls.regrown_of (HCC.out _))))); refine wpQuiet_nil ?_; intro _ hw'; obtain ⟨⟨dq, osq⟩, hw''⟩ := hw'; subst hw''
            have HS9 : Hid (St w (grow (redrawn w7 dq) osq) s c t n b) := HS7.out.below (below_gr (Below.refl _ _) (Nat.le_refl _) _ _); have HM9 : Hid (Md (grow (redrawn w7 dq) osq) g (rtS s) (rtC c)) := HM7.out.below (below_gr (Below.refl _ _) (Nat.le_refl _) _ _); have HR9 : Hid (Rw (grow (redrawn w7 dq) osq) g5 R) := HR7.out.below (below_gr (Below.refl _ _) (Nat.le_refl _) _ _)
            go_wp2
            go_roundw
            case rel => exact ⟨j + 1, by omega, by go_num, .inr ⟨j, by omega, HE, rfl, rfl⟩, HS9, HM9, HR9⟩
            case measure => simp [intOf]; omega
          · have hz0 : decide ((i0 : Int) < 0) = false := decide_eq_false (by omega)
            by_cases hl : aLev t R j < aLev t R i0
            · have HE : Hid (aNx t capB R (j + 1) = some j) := by show _ = _; rw [aNx, HN.out]; exact if_pos ⟨hc, hl⟩
              go_wp2
              go_region_held3 (fun w' => w'.cell? ⟨w.heap.size, 2, none⟩ = some (.int .i64 t) ∧ w'.cell? ⟨w.heap.size, 3, none⟩ = some (.int .i64 n) ∧ w'.cell? ⟨g, 0, none⟩ = some (.int .i64 (rtS s)) ∧ w'.cell? ⟨g, 1, none⟩ = some (.int .i64 (rtC c)) ∧ w'.cell? ⟨g5, j, none⟩ = some (.int .i64 (R j))) (first | exact ⟨e0, e1, e2, e3, e4⟩ | exact ⟨d0, d1, d2, d3, d4⟩ | exact ⟨c0, c1, c2, c3, c4⟩) ((first | (go_at_call 14; refine (slope_any _ _ _ _ _ ((HT1.out.drewN _))).mono ?_; rw [HSL.out]; rintro e w7 ⟨rfl, hb7⟩; have HS7 : Hid (St w w7 s c t n b) := (HS1.out.drewN _).below hb7; have HM7 : Hid (Md w7 g (rtS s) (rtC c)) := (HM1.out.drewN _).below hb7; have HR7 : Hid (Rw w7 g5 R) := (HR1.out.drewN _).below hb7; have HT7 : Hid (WTab w7) := HS7.out.ini.tab; have d0 := HS7.out.ini.ask.c2; have d1 := HS7.out.ini.ask.c3; have d2 := HM7.out.cs; have d3 := HM7.out.cc; have d4 := HR7.out.cell (i := j) (by omega); clear hb7)))
              rw [HWR.out]
              clear HS1 HM1 HR1 HT1 c0 c1 c2 c3 c4; have l0 := HM7.out.lt; have l1 := HR7.out.lt; have l2 := HS7.out.al
              go_wp2
              refine wp_region_quiet_below (by kernel_rfl) (by kernel_rfl) ?_; (repeat (go_big_quiet_step (first | (go_at_call 21; refine Calls.regrown_of (HWC.out _ (HT7.out.below (below_gr (Below.refl _ _) (Nat.le_refl _) _ _)))) | (go_at_call 20; refine Calls.regrown_of (HCC.out _))))); refine wpQuiet_nil ?_; intro _ hw'; obtain ⟨⟨dq, osq⟩, hw''⟩ := hw'; subst hw''
              have HS9 : Hid (St w (grow (redrawn w7 dq) osq) s c t n b) := HS7.out.below (below_gr (Below.refl _ _) (Nat.le_refl _) _ _); have HM9 : Hid (Md (grow (redrawn w7 dq) osq) g (rtS s) (rtC c)) := HM7.out.below (below_gr (Below.refl _ _) (Nat.le_refl _) _ _); have HR9 : Hid (Rw (grow (redrawn w7 dq) osq) g5 R) := HR7.out.below (below_gr (Below.refl _ _) (Nat.le_refl _) _ _)
              go_wp2
              go_roundw
              case rel => exact ⟨j + 1, by omega, by go_num, .inr ⟨j, by omega, HE, rfl, rfl⟩, HS9, HM9, HR9⟩
              case measure => simp [intOf]; omega
            · have hl' : decide (aLev t R j < aLev t R i0) = false := decide_eq_false hl
              have HE : Hid (aNx t capB R (j + 1) = some i0) := by show _ = _; rw [aNx, HN.out]; exact if_neg (fun h => hl h.2)
              go_wp2
              go_region_held3 (fun w' => w'.cell? ⟨w.heap.size, 2, none⟩ = some (.int .i64 t) ∧ w'.cell? ⟨w.heap.size, 3, none⟩ = some (.int .i64 n) ∧ w'.cell? ⟨g, 0, none⟩ = some (.int .i64 (rtS s)) ∧ w'.cell? ⟨g, 1, none⟩ = some (.int .i64 (rtC c)) ∧ w'.cell? ⟨g5, j, none⟩ = some (.int .i64 (R j))) (first | exact ⟨e0, e1, e2, e3, e4⟩ | exact ⟨d0, d1, d2, d3, d4⟩ | exact ⟨c0, c1, c2, c3, c4⟩) ((first | (go_at_call 14; refine (slope_any _ _ _ _ _ ((HT1.out.drewN _))).mono ?_; rw [HSL.out]; rintro e w7 ⟨rfl, hb7⟩; have HS7 : Hid (St w w7 s c t n b) := (HS1.out.drewN _).below hb7; have HM7 : Hid (Md w7 g (rtS s) (rtC c)) := (HM1.out.drewN _).below hb7; have HR7 : Hid (Rw w7 g5 R) := (HR1.out.drewN _).below hb7; have HT7 : Hid (WTab w7) := HS7.out.ini.tab; have d0 := HS7.out.ini.ask.c2; have d1 := HS7.out.ini.ask.c3; have d2 := HM7.out.cs; have d3 := HM7.out.cc; have d4 := HR7.out.cell (i := j) (by omega); clear hb7)))
              rw [HWR.out]
              clear HS1 HM1 HR1 HT1 c0 c1 c2 c3 c4; have l0 := HM7.out.lt; have l1 := HR7.out.lt; have l2 := HS7.out.al
              go_wp2
              refine wp_region_quiet_below (by kernel_rfl) (by kernel_rfl) ?_; (repeat (go_big_quiet_step (first | (go_at_call 21; refine Calls.regrown_of (HWC.out _ (HT7.out.below (below_gr (Below.refl _ _) (Nat.le_refl _) _ _)))) | (go_at_call 20; refine Calls.regrown_of (HCC.out _))))); refine wpQuiet_nil ?_; intro _ hw'; obtain ⟨⟨dq, osq⟩, hw''⟩ := hw'; subst hw''
              have HS9 : Hid (St w (grow (redrawn w7 dq) osq) s c t n b) := HS7.out.below (below_gr (Below.refl _ _) (Nat.le_refl _) _ _); have HM9 : Hid (Md (grow (redrawn w7 dq) osq) g (rtS s) (rtC c)) := HM7.out.below (below_gr (Below.refl _ _) (Nat.le_refl _) _ _); have HR9 : Hid (Rw (grow (redrawn w7 dq) osq) g5 R) := HR7.out.below (below_gr (Below.refl _ _) (Nat.le_refl _) _ _)
              go_wp2
              go_roundw
              case rel => exact ⟨j + 1, by omega, by go_num, .inr ⟨i0, by omega, HE, rfl, rfl⟩, HS9, HM9, HR9⟩
              case measure => simp [intOf]; omega
        · have hd : decide (R j < capB j) = false := decide_eq_false hc
          rcases hw with ⟨HN, rfl, rfl⟩ | ⟨i0, hi0, HN, rfl, rfl⟩
          · have HE : Hid (aNx t capB R (j + 1) = none) := by show _ = _; rw [aNx, HN.out]; exact if_neg hc
            go_wp2
            go_region_held3 (fun w' => w'.cell? ⟨w.heap.size, 2, none⟩ = some (.int .i64 t) ∧ w'.cell? ⟨w.heap.size, 3, none⟩ = some (.int .i64 n) ∧ w'.cell? ⟨g, 0, none⟩ = some (.int .i64 (rtS s)) ∧ w'.cell? ⟨g, 1, none⟩ = some (.int .i64 (rtC c)) ∧ w'.cell? ⟨g5, j, none⟩ = some (.int .i64 (R j))) (first | exact ⟨e0, e1, e2, e3, e4⟩ | exact ⟨d0, d1, d2, d3, d4⟩ | exact ⟨c0, c1, c2, c3, c4⟩) ((first | (go_at_call 14; refine (slope_any _ _ _ _ _ ((HT1.out.drewN _))).mono ?_; rw [HSL.out]; rintro e w7 ⟨rfl, hb7⟩; have HS7 : Hid (St w w7 s c t n b) := (HS1.out.drewN _).below hb7; have HM7 : Hid (Md w7 g (rtS s) (rtC c)) := (HM1.out.drewN _).below hb7; have HR7 : Hid (Rw w7 g5 R) := (HR1.out.drewN _).below hb7; have HT7 : Hid (WTab w7) := HS7.out.ini.tab; have d0 := HS7.out.ini.ask.c2; have d1 := HS7.out.ini.ask.c3; have d2 := HM7.out.cs; have d3 := HM7.out.cc; have d4 := HR7.out.cell (i := j) (by omega); clear hb7)))
            rw [HWR.out]
            clear HS1 HM1 HR1 HT1 c0 c1 c2 c3 c4; have l0 := HM7.out.lt; have l1 := HR7.out.lt; have l2 := HS7.out.al
            go_wp2
            refine wp_region_quiet_below (by kernel_rfl) (by kernel_rfl) ?_; (repeat (go_big_quiet_step (first | (go_at_call 21; refine Calls.regrown_of (HWC.out _ (HT7.out.below (below_gr (Below.refl _ _) (Nat.le_refl _) _ _)))) | (go_at_call 20; refine Calls.regrown_of (HCC.out _))))); refine wpQuiet_nil ?_; intro _ hw'; obtain ⟨⟨dq, osq⟩, hw''⟩ := hw'; subst hw''
            have HS9 : Hid (St w (grow (redrawn w7 dq) osq) s c t n b) := HS7.out.below (below_gr (Below.refl _ _) (Nat.le_refl _) _ _); have HM9 : Hid (Md (grow (redrawn w7 dq) osq) g (rtS s) (rtC c)) := HM7.out.below (below_gr (Below.refl _ _) (Nat.le_refl _) _ _); have HR9 : Hid (Rw (grow (redrawn w7 dq) osq) g5 R) := HR7.out.below (below_gr (Below.refl _ _) (Nat.le_refl _) _ _)
            go_wp2
            go_roundw
            case rel => exact ⟨j + 1, by omega, by go_num, .inl ⟨HE, rfl, rfl⟩, HS9, HM9, HR9⟩
            case measure => simp [intOf]; omega
          · have HE : Hid (aNx t capB R (j + 1) = some i0) := by show _ = _; rw [aNx, HN.out]; exact if_neg (fun h => hc h.1)
            go_wp2
            go_region_held3 (fun w' => w'.cell? ⟨w.heap.size, 2, none⟩ = some (.int .i64 t) ∧ w'.cell? ⟨w.heap.size, 3, none⟩ = some (.int .i64 n) ∧ w'.cell? ⟨g, 0, none⟩ = some (.int .i64 (rtS s)) ∧ w'.cell? ⟨g, 1, none⟩ = some (.int .i64 (rtC c)) ∧ w'.cell? ⟨g5, j, none⟩ = some (.int .i64 (R j))) (first | exact ⟨e0, e1, e2, e3, e4⟩ | exact ⟨d0, d1, d2, d3, d4⟩ | exact ⟨c0, c1, c2, c3, c4⟩) ((first | (go_at_call 14; refine (slope_any _ _ _ _ _ ((HT1.out.drewN _))).mono ?_; rw [HSL.out]; rintro e w7 ⟨rfl, hb7⟩; have HS7 : Hid (St w w7 s c t n b) := (HS1.out.drewN _).below hb7; have HM7 : Hid (Md w7 g (rtS s) (rtC c)) := (HM1.out.drewN _).below hb7; have HR7 : Hid (Rw w7 g5 R) := (HR1.out.drewN _).below hb7; have HT7 : Hid (WTab w7) := HS7.out.ini.tab; have d0 := HS7.out.ini.ask.c2; have d1 := HS7.out.ini.ask.c3; have d2 := HM7.out.cs; have d3 := HM7.out.cc; have d4 := HR7.out.cell (i := j) (by omega); clear hb7)))
            rw [HWR.out]
            clear HS1 HM1 HR1 HT1 c0 c1 c2 c3 c4; have l0 := HM7.out.lt; have l1 := HR7.out.lt; have l2 := HS7.out.al
            go_wp2
            refine wp_region_quiet_below (by kernel_rfl) (by kernel_rfl) ?_; (repeat (go_big_quiet_step (first | (go_at_call 21; refine Calls.regrown_of (HWC.out _ (HT7.out.below (below_gr (Below.refl _ _) (Nat.le_refl _) _ _)))) | (go_at_call 20; refine Calls.regrown_of (HCC.out _))))); refine wpQuiet_nil ?_; intro _ hw'; obtain ⟨⟨dq, osq⟩, hw''⟩ := hw'; subst hw''
            have HS9 : Hid (St w (grow (redrawn w7 dq) osq) s c t n b) := HS7.out.below (below_gr (Below.refl _ _) (Nat.le_refl _) _ _); have HM9 : Hid (Md (grow (redrawn w7 dq) osq) g (rtS s) (rtC c)) := HM7.out.below (below_gr (Below.refl _ _) (Nat.le_refl _) _ _); have HR9 : Hid (Rw (grow (redrawn w7 dq) osq) g5 R) := HR7.out.below (below_gr (Below.refl _ _) (Nat.le_refl _) _ _)
            go_wp2
            go_roundw
            case rel => exact ⟨j + 1, by omega, by go_num, .inr ⟨i0, by omega, HE, rfl, rfl⟩, HS9, HM9, HR9⟩
            case measure => simp [intOf]; omega
      · obtain rfl : j = B := by omega
        rcases hw with ⟨HN, rfl, rfl⟩ | ⟨i0, hi0, HN, rfl, rfl⟩
        · go_wp2_with (go_at_call 19; refine (bands_any _ _ _).mono ?_; rw [HBN.out]; rintro e w6 ⟨rfl, hb6⟩; have HS1 : Hid (St w w6 s c t n b) := HS.out.below hb6; clear hb6)
          go_returns
          exact ⟨rfl, HS1.out.ini.low⟩
        · have hj := (nx_some HN.out)
          have hi5 : i0 < 5 := by omega
          have hi5' : (i0 : Int) < 5 := by omega
          have hi0' : (0 : Int) ≤ (i0 : Int) := by omega
          have hz0 : decide ((i0 : Int) < 0) = false := decide_eq_false (by omega)
          have HFM : Hid (Fit j (aMore R i0)) := HF.out.more hj.1 hj.2.1
          have HNP : Hid (n < aTot (rtS s) (rtC c) (aMore R i0)) := by
            show n < aTot (rtS s) (rtC c) (aMore R i0)
            rw [tot_fit hrr HBN.out hB5 HFM.out, Int.mul_comm]
            exact HL.out.2 i0 HN.out
          have hk := fit_32 hB5 HF.out i0 hi5
          clear hj
          go_upto_region 17 with (go_at_call 19; refine (bands_any _ _ _).mono ?_; rw [HBN.out]; rintro e w6 ⟨rfl, hb6⟩; have HS1 : Hid (St w w6 s c t n b) := HS.out.below hb6; have HM1 : Hid (Md w6 g (rtS s) (rtC c)) := HM.out.below hb6; have HR1 : Hid (Rw w6 g5 R) := HR.out.below hb6; clear hb6)
          have c4 := HR1.out.cell hi5
          have c5 := HR1.out.fz i0
          have HS7 : Hid (St w (w6.setCell ⟨g5, i0, none⟩ (.int .i64 (R i0 + 1))) s c t n b) := HS1.out.set hT.out HR1.out hgg hg5 i0 _
          have HM7 : Hid (Md (w6.setCell ⟨g5, i0, none⟩ (.int .i64 (R i0 + 1))) g (rtS s) (rtC c)) := HM1.out.set_other hgn i0 _
          have HR7 : Hid (Rw (w6.setCell ⟨g5, i0, none⟩ (.int .i64 (R i0 + 1))) g5 (aMore R i0)) := by
            show _ = _
            rw [← row5_more R (k := i0) hi5]
            exact heap_setCell_same w6 g5 i0 _ _ _ HR1.out
          have HTC : Hid (∀ X, St w X s c t n b → Calls Tryd.prog 13 #[.pointer (some ⟨b, 0, none⟩), (.agg #[.int .i64 (rtS s), .int .i64 (rtC c)]), .agg #[.int .i64 (aMore R i0 0), .int .i64 (aMore R i0 1), .int .i64 (aMore R i0 2), .int .i64 (aMore R i0 3), .int .i64 (aMore R i0 4)]] X fun e w' => e = .returned (.int .i64 (aTot (rtS s) (rtC c) (aMore R i0))) ∧ St w w' s c t n b ∧ Kp X w' b) := fun X h => st_tot _ _ (aMore R i0) (fit_wf hB5 HFM.out) h
          go_upto_region 18 with fail
          clear c4 c5 HS1 HM1 HR1 HS HM HR b2 b3
          generalize w6.setCell ⟨g5, i0, none⟩ (.int .i64 (R i0 + 1)) = w7 at *
          generalize aTot (rtS s) (rtC c) (aMore R i0) = q at *
          have hnq : n < q := HNP.out
          generalize aMore R i0 = F at *
          have c0 := HS7.out.ini.ask.c3
          have c1 := HM7.out.cs
          have c2 := HM7.out.cc
          have r0 := HR7.out.cell (i := 0) (by omega)
          have r1 := HR7.out.cell (i := 1) (by omega)
          have r2 := HR7.out.cell (i := 2) (by omega)
          have r3 := HR7.out.cell (i := 3) (by omega)
          have r4 := HR7.out.cell (i := 4) (by omega)
          go_region_held3 (fun w' => w'.cell? ⟨w.heap.size, 3, none⟩ = some (.int .i64 n) ∧ w'.cell? ⟨g, 0, none⟩ = some (.int .i64 (rtS s)) ∧ w'.cell? ⟨g, 1, none⟩ = some (.int .i64 (rtC c)) ∧ w'.cell? ⟨g5, 0, none⟩ = some (.int .i64 (F 0)) ∧ w'.cell? ⟨g5, 1, none⟩ = some (.int .i64 (F 1)) ∧ w'.cell? ⟨g5, 2, none⟩ = some (.int .i64 (F 2)) ∧ w'.cell? ⟨g5, 3, none⟩ = some (.int .i64 (F 3)) ∧ w'.cell? ⟨g5, 4, none⟩ = some (.int .i64 (F 4))) (first | exact ⟨c0, c1, c2, r0, r1, r2, r3, r4⟩ | exact ⟨d0, d1, d2, q0, q1, q2, q3, q4⟩) ((first
            | (go_at_call 13; refine (HTC.out _ (by first | with_reducible exact HS7.out | with_reducible exact HS7.out.drew)).mono ?_; rintro e w8 ⟨rfl, hS8, hK8⟩; have HX8 : Hid (Below w.heap.size w w8) := hS8.ini.low; have d0 := hS8.ini.ask.c3; have HM8 : Hid (Md w8 g (rtS s) (rtC c)) := Md.kp (by first | with_reducible exact HM7.out | with_reducible exact HM7.out.drew) hK8 hg; have d1 := HM8.out.cs; have d2 := HM8.out.cc; have HR8 : Hid (Rw w8 g5 F) := Rw.kp (by first | with_reducible exact HR7.out | with_reducible exact HR7.out.drew) hK8 hg5; have q0 := HR8.out.cell (i := 0) (by omega); have q1 := HR8.out.cell (i := 1) (by omega); have q2 := HR8.out.cell (i := 2) (by omega); have q3 := HR8.out.cell (i := 3) (by omega); have q4 := HR8.out.cell (i := 4) (by omega); clear hS8 hK8)))
          all_goals go_wp2
          all_goals go_returns
          all_goals exact ⟨rfl, HX8.out⟩
end Go.Proofs.YthlbilfdeneajaaDoor
