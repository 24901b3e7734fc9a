/-
  What Total and Alloc of package alloc do: what any pulses cost in any mode is answered, and what a budget comes to. Nothing that was there is turned but the book's own block and its map.
-/
import Derived.Test.YthlbilfdeneajaaDoorAllocNext
namespace Go.Proofs.YthlbilfdeneajaaDoor
set_option linter.unusedVariables false
open Go.ChangeShapes Go.WideShapes Go.ChangeAt Go.RowKit

theorem wid_le (s c : Int) (b : Nat) : 0 ≤ widthF s c b ∧ widthF s c b ≤ 16 := by
  unfold widthF
  split
  · rename_i h
    have := wid_bd (i := (b : Int).toNat) (by have := has_bd h; omega)
    omega
  · omega
set_option maxHeartbeats 2000000 in
theorem total_any (w : World) (b : Nat) (mo : Option Nat) (s c : Int) (f : Nat → Int) (hf : Hid (∀ i, i < 5 → (Lit.int .i64 (f i)).wf = true)) (hB : Hid (Bk w b mo)) (hT : Hid (WTab w)) :
    Calls Tryd.prog 13 #[.pointer (some ⟨b, 0, none⟩), (.agg #[.int .i64 (s), .int .i64 (c)]), .agg (row5 f)] w fun e w' => e = .returned (.int .i64 (aTot s c f)) ∧ ∃ mo', Bk w' b mo' ∧ Gb w w' b mo mo' := by
  have hbl := hB.out.lt
  have HPS : Hid (PS w _ b mo s c f) := PS.start (s := s) (c := c) (f := f) hB.out hT.out
  by_cases hr : right s c
  · obtain ⟨B, hB1, _, _, h5⟩ := bands_nat hr
    have HBn : Hid (bandsF s c = B) := hB1
    have HTY : Hid (aOk s c f 5 = true → aTot s c f = aPr f B * c) := fun h => by unfold aTot; rw [if_pos ⟨hr, h⟩, hB1]; rfl
    have HTN : Hid (aOk s c f 5 = false → aTot s c f = -1) := fun h => by unfold aTot; rw [if_neg (fun e => by rw [h] at e; cases e.2)]
    clear hB1
    go_enter Tryd.func13, Tryd.ntmps13
    go_wp2_with (go_at_call 27; refine (right_yes _ _ _ hr).mono ?_; rintro e w1 ⟨rfl, hb1⟩; have HP1 : Hid (PS w w1 b mo s c f) := HPS.out.below hb1; clear hb1)
    go_loopw [11] (fun i wr => ∃ j : Nat, j ≤ 5 ∧ i = .int .i64 j ∧ Hid (aOk s c f j = true) ∧ Hid (PS w wr b mo s c f)) (fun i _ => 5 - (intOf i).toNat)
    case atStart => exact ⟨0, by omega, rfl, rfl, HP1⟩
    case round =>
      clear HP1 HPS
      obtain ⟨j, hj, rfl, HO, HP⟩ := hrel
      have c1 := HP.out.cs
      have c2 := HP.out.cc
      by_cases hlt : j < 5
      · have hlt' : (j : Int) < 5 := by omega
        have c3 := HP.out.cf (i := j) hlt
        have j0 : (0 : Int) ≤ (j : Int) := by omega
        have hwl := wid_le s c j
        have HA : Hid (aOk s c f (j + 1) = aMay (widthF s c j) (f j)) := by show _ = _; rw [aOk, HO.out, Bool.true_and]
        have HF : Hid _ := hf.out j hlt
        have HM : Hid (∀ (w : World) (mo : Option Nat), Hid (Bk w b mo) → Calls Tryd.prog 28 #[.pointer (some ⟨b, 0, none⟩), .int .i64 (widthF s c j), .int .i64 (f j)] w fun e w' => e = .returned (.bool (aMay (widthF s c j) (f j))) ∧ ∃ mo', Bk w' b mo' ∧ Gb w w' b mo mo') := fun w mo h => amay_any w b mo _ _ hwl HF.out h
        cases hz : aMay (widthF s c j) (f j) with
        | true =>
          rw [hz] at HA HM
          go_wp2
          go_region_held3 (fun w' => w'.cell? ⟨w.heap.size, 0, none⟩ = some (.int .i64 s) ∧ w'.cell? ⟨w.heap.size, 1, none⟩ = some (.int .i64 c) ∧ w'.cell? ⟨w.heap.size + 1, j, none⟩ = some (.int .i64 (f j))) (first | exact ⟨c1, c2, c3⟩ | exact ⟨d1, d2, d3⟩ | exact ⟨e1, e2, e3⟩) ((first
            | (go_at_call 21; refine (width_any _ _ _ _ ((HP.out.drewN _).tab : WTab _)).mono ?_; rintro e w2 ⟨rfl, hb2⟩; have HP2 : Hid (PS w w2 b mo s c f) := (HP.out.drewN _).below hb2; have d1 := HP2.out.cs; have d2 := HP2.out.cc; have d3 := HP2.out.cf (i := j) (by omega); clear hb2)
            | (go_at_call 28; obtain ⟨mo2, hB2, hG2⟩ := HP2.out.book; have HB2 : Hid (Bk w2 b mo2) := hB2; refine (HM.out _ mo2 HB2).mono ?_; rintro e w3 ⟨rfl, mo3, hB3, hG3⟩; have HP3 : Hid (PS w w3 b mo s c f) := HP2.out.gb (by omega) (by omega) HB2.out hG2 hB3 hG3; have e1 := HP3.out.cs; have e2 := HP3.out.cc; have e3 := HP3.out.cf (i := j) (by omega); clear hB2 hG2 HB2 hB3 hG3)))
          go_wp2
          go_roundw
          case rel => exact ⟨j + 1, by omega, by go_num, HA, HP3⟩
          case measure => simp [intOf]; omega
        | false =>
          rw [hz] at HA HM
          go_wp2
          go_region_held3 (fun w' => w'.cell? ⟨w.heap.size, 0, none⟩ = some (.int .i64 s) ∧ w'.cell? ⟨w.heap.size, 1, none⟩ = some (.int .i64 c) ∧ w'.cell? ⟨w.heap.size + 1, j, none⟩ = some (.int .i64 (f j))) (first | exact ⟨c1, c2, c3⟩ | exact ⟨d1, d2, d3⟩ | exact ⟨e1, e2, e3⟩) ((first
            | (go_at_call 21; refine (width_any _ _ _ _ ((HP.out.drewN _).tab : WTab _)).mono ?_; rintro e w2 ⟨rfl, hb2⟩; have HP2 : Hid (PS w w2 b mo s c f) := (HP.out.drewN _).below hb2; have d1 := HP2.out.cs; have d2 := HP2.out.cc; have d3 := HP2.out.cf (i := j) (by omega); clear hb2)
            | (go_at_call 28; obtain ⟨mo2, hB2, hG2⟩ := HP2.out.book; have HB2 : Hid (Bk w2 b mo2) := hB2; refine (HM.out _ mo2 HB2).mono ?_; rintro e w3 ⟨rfl, mo3, hB3, hG3⟩; have HP3 : Hid (PS w w3 b mo s c f) := HP2.out.gb (by omega) (by omega) HB2.out hG2 hB3 hG3; have e1 := HP3.out.cs; have e2 := HP3.out.cc; have e3 := HP3.out.cf (i := j) (by omega); clear hB2 hG2 HB2 hB3 hG3)))
          go_wp2
          go_returns
          exact ⟨by rw [HTN.out (ok_less HA.out (by omega))]; rfl, HP3.out.book⟩
      · obtain rfl : j = 5 := by omega
        obtain ⟨mo2, hB2, hG2⟩ := HP.out.book
        have HB2 : Hid (Bk wr b mo2) := hB2
        have HG2 : Hid (Gb w wr b mo mo2) := hG2
        clear hB2 hG2
        go_wp2_with (refine wl_load5 rfl _ rfl (w.heap.size + 1) f rfl HP.out.row ?_)
        refine (price_any _ b mo2 s c f B hr HBn h5 HB2 HP.out.tab).mono ?_
        rintro e w3 ⟨rfl, mo3, hB3, hG3⟩
        have HX : Hid (∃ mo', Bk w3 b mo' ∧ Gb w w3 b mo mo') := ⟨mo3, hB3, HG2.out.trans hG3⟩
        clear hB3 hG3
        go_wp2
        go_returns
        exact ⟨by rw [HTY.out HO.out]; rfl, HX.out⟩
  · have HTN : Hid (aTot s c f = -1) := if_neg (fun e => hr e.1)
    go_enter Tryd.func13, Tryd.ntmps13
    go_wp2_with (go_at_call 27; refine (right_no _ _ _ hr).mono ?_; rintro e w1 ⟨rfl, hb1⟩; have HP1 : Hid (PS w w1 b mo s c f) := HPS.out.below hb1; clear hb1)
    go_returns
    exact ⟨by rw [HTN.out]; rfl, HP1.out.book⟩
end Go.Proofs.YthlbilfdeneajaaDoor
