/-
  The law RankLists of layer 11 (rank) as a walk: called at any two numbers of eight bits it returns true, and nothing that was there has turned.
-/
import Derived.Test.YtgjbnkkjajljmaaRankLaws
import Derived.Test.YtgjbnkkjajljmaaCountAll
namespace Go.Proofs.Ytgjbnkkjajljmaa
set_option linter.unusedVariables false
open Go.ChangeShapes Go.WideShapes Go.ChangeAt Go.RowKit

set_option maxHeartbeats 1000000 in
theorem ints_same (w : World) (ao bo : Option Addr) (n cap dap : Nat) (r : List Int) (hn : n ≤ 1000) (hr : Hid (r.length = n)) (h : Hid (LAt w ao r)) (h' : Hid (LAt w bo r)) :
    Calls Try.prog 18 #[.slice ao n cap, .slice bo n dap] w fun e w' => e = .returned (.bool true) ∧ ∃ d, w' = w.drewN d := by
  go_enter Try.func18, Try.ntmps18
  go_wp2
  go_loopw [13] (fun i wr => ∃ q d : Nat, q ≤ n ∧ i = .int .i64 q ∧ wr = w.drewN d) (fun i _ => n - (intOf i).toNat)
  case atStart => exact ⟨0, 0, by omega, rfl, rfl⟩
  case round =>
    obtain ⟨q, d, hq, rfl, rfl⟩ := hrel
    by_cases hlt : q < n
    · have hlt' : (q : Int) < (n : Int) := by omega
      obtain ⟨x, hx⟩ : ∃ x, r[q]? = some x := ⟨_, List.getElem?_eq_getElem (by rw [hr.out]; exact hlt)⟩
      obtain ⟨bl, off, rfl, c0⟩ := h.out q x hx
      obtain ⟨bl', off', rfl, c1⟩ := h'.out q x hx
      clear hx
      go_wp2
      go_region
      all_goals go_wp2
      all_goals go_roundw
      case rel => exact ⟨q + 1, d + 1, by omega, by go_num, rfl⟩
      case measure => simp [intOf]; omega
    · obtain rfl : q = n := by omega
      go_wp2
      go_returns
      exact ⟨rfl, d, rfl⟩

set_option maxHeartbeats 2000000 in
theorem ranks_law (n k : Int) (w : World) (n0 : 0 ≤ n) (n1 : n ≤ 255) (k0 : 0 ≤ k) (k1 : k ≤ 255) : Calls Try.prog 5 #[.int .u8 n, .int .u8 k] w fun e w' => e = .returned (.bool true) ∧ Below w.heap.size w w' := by
  obtain ⟨x, hx⟩ : ∃ x : Nat, n.tmod 5 = x := ⟨(n.tmod 5).toNat, by rw [Int.tmod_eq_emod_of_nonneg n0]; omega⟩
  obtain ⟨y, hy⟩ : ∃ y : Nat, k.tmod 6 = y := ⟨(k.tmod 6).toNat, by rw [Int.tmod_eq_emod_of_nonneg k0]; omega⟩
  have hx1 : x < 5 := by rw [Int.tmod_eq_emod_of_nonneg n0] at hx; omega
  have hy1 : y < 6 := by rw [Int.tmod_eq_emod_of_nonneg k0] at hy; omega
  have HE : Hid ((allL x y).length = vv x y) := lists_is hx1 hy1
  have HA : Hid (∀ (i : Nat) (r : List Int), (allL x y)[i]? = some r → r.length = x ∧ pul r = y ∧ rk r y = i) := fun i r h => all_rank hx1 hy1 h
  have hLL := allL_len (n := x) (k := y) (by omega) (by omega)
  go_enter Try.func5, Try.ntmps5
  go_wp2_with fail
  refine (awake11 _).mono ?_
  rintro e w0 ⟨rfl, hb0⟩
  have HZ0 : Hid (Below w.heap.size w w0) := hb0
  clear hb0
  go_wp2_with fail
  refine (all_any x (by omega) y (by omega) _).mono ?_
  rintro e w1 ⟨vl, rfl, hL1, hb1⟩
  obtain ⟨al, cl, rfl, hcl1, hcl2, _⟩ := hL1.slice
  have HL1 : Hid (OwnLL w1 w0.heap.size (.slice al (allL x y).length cl) (allL x y)) := hL1
  have HZ1 : Hid (Below w.heap.size w w1) := HZ0.out.trans (hb1.mono HZ0.out.size)
  clear hL1 hb1 HZ0
  obtain ⟨L, hL⟩ : ∃ L, allL x y = L := ⟨_, rfl⟩
  rw [hL] at HE HA HL1 hLL hcl1 ⊢
  obtain ⟨M, hM⟩ : ∃ M, L.length = M := ⟨_, rfl⟩
  have HM : Hid (L.length = M) := hM
  rw [hM] at HE HL1 hLL hcl1 ⊢
  clear hL hM hx hy
  go_wp2_with fail
  refine (newb_calls _).mono ?_
  rintro e w2 ⟨b, rfl, hB2, hb2, hle⟩
  have HB2 : Hid (Bk w2 b none) := hB2
  have HZ2 : Hid (Below w1.heap.size w1 w2) := hb2
  clear hB2 hb2
  go_wp2_with fail
  go_loopw [29] (fun i wr => ∃ q : Nat, q ≤ M ∧ i = .int .i64 q ∧ Hid (∃ mo', Bk wr b mo' ∧ Gb w2 wr b none mo')) (fun i _ => M - (intOf i).toNat)
  case atStart => exact ⟨0, by omega, rfl, none, HB2.out, Gb.refl _ _ _⟩
  case round =>
    clear HB2
    obtain ⟨q, hq, rfl, HX⟩ := hrel
    obtain ⟨mo3, hB3, hG3⟩ := HX.out
    have HB3 : Hid (Bk wr b mo3) := hB3
    have HG3 : Hid (Gb w2 wr b none mo3) := hG3
    have HZ3 : Hid (Below w1.heap.size w1 wr) := below_book HZ2.out hle hG3
    clear hB3 hG3 HX
    by_cases hlt : q < M
    · have hlt' : (q : Int) < (M : Int) := by omega
      obtain ⟨r, hr⟩ : ∃ r, L[q]? = some r := ⟨_, List.getElem?_eq_getElem (by rw [HM.out]; exact hlt)⟩
      obtain ⟨e1, e2, e3⟩ := HA.out q r hr
      obtain ⟨gl, cl', el, _, _, _, _⟩ := HL1.out.form (by rw [HM.out]; omega)
      rw [HM.out] at el
      cases el
      have HLr : Hid (OwnLL wr w0.heap.size (.slice (some ⟨gl, 0, none⟩) M cl) L) := HL1.out.same (fun i _ hi => HZ3.out.block i hi)
      obtain ⟨vx, cx, hxr⟩ := HLr.out.at hr
      obtain ⟨ax, kx, rfl, _, _, _⟩ := hxr.slice
      have HXr : Hid (OwnL wr w0.heap.size (.slice ax r.length kx) r) := hxr
      rw [e1] at cx HXr
      have HLx : Hid (LAt wr ax r) := HXr.out.lat
      have HE1 : Hid (r.length = x) := e1
      have HE2 : Hid (pul r = y) := e2
      have HE3 : Hid (rk r y = q) := e3
      have HRr : Hid (L[q]? = some r) := hr
      clear e1 e2 e3 hxr hr
      go_wp2_with fail
      refine (unrank_good _ b mo3 x y q (by show q < vv x y; rw [← HE.out]; exact hlt) (by omega) (by omega) HB3).mono ?_
      rintro e w4 ⟨g4, r4, rfl, hO4, hl4, hp4, hr4, mo4, hB4, hG4⟩
      have er : r4 = r := rk_inj (hl4.trans HE1.out.symm) (by omega) (by omega) hp4 HE2.out (hr4.trans HE3.out.symm)
      subst er
      have HL4 : Hid (LAt w4 (some ⟨g4, 0, none⟩) r4) := hO4.lat
      have HLx4 : Hid (LAt w4 ax r4) := HB3.out.lat hG4 HLx.out
      have HB4 : Hid (Bk w4 b mo4) := hB4
      have HG4 : Hid (Gb w2 w4 b none mo4) := HG3.out.trans hG4
      have HZ4 : Hid (Below w1.heap.size w1 w4) := below_book HZ2.out hle HG4.out
      clear hO4 hl4 hp4 hr4 hB4 hG4 cx HXr HLx HLr HZ3
      go_wp2_with fail
      refine (ints_same _ _ _ x _ _ r4 (by omega) HE1 HL4 HLx4).mono ?_
      rintro e w5 ⟨rfl, d5, rfl⟩
      by_cases hq0 : q = 0
      · subst hq0
        have HX5 : Hid (∃ mo', Bk (w4.drewN d5) b mo' ∧ Gb w2 (w4.drewN d5) b none mo') := ⟨mo4, HB4.out.drewN d5, HG4.out.drewN' d5⟩
        go_wp2
        go_roundw
        case rel => exact ⟨1, by omega, by go_num, HX5⟩
        case measure => simp [intOf]; omega
      · have hq0' : (0 : Int) < (q : Int) := by omega
        have hq0d : decide (0 < q) = true := decide_eq_true (by omega)
        obtain ⟨s, hs⟩ : ∃ s, L[q - 1]? = some s := ⟨_, List.getElem?_eq_getElem (by rw [HM.out]; omega)⟩
        obtain ⟨f1, f2, f3⟩ := HA.out (q - 1) s hs
        have HLr : Hid (OwnLL w4 w0.heap.size (.slice (some ⟨gl, 0, none⟩) M cl) L) := HL1.out.same (fun i _ hi => HZ4.out.block i hi)
        obtain ⟨vs, cs, hsr⟩ := HLr.out.at hs
        obtain ⟨az, ks, rfl, _, _, _⟩ := hsr.slice
        have HSr : Hid (OwnL w4 w0.heap.size (.slice az s.length ks) s) := hsr
        rw [f1] at cs HSr
        have HLs : Hid (LAt (w4.drewN d5) az s) := HSr.out.lat.drewN d5
        have HL5 : Hid (LAt (w4.drewN d5) (some ⟨g4, 0, none⟩) r4) := HL4.out.drewN d5
        have HF1 : Hid (s.length = x) := f1
        have HBF : Hid (bef s r4 = true) := by
          show bef s r4 = true
          rw [bef_lt s r4 (f1.trans HE1.out.symm) (by omega) y (by omega) f2 HE2.out, f3, HE3.out]
          omega
        have HW1 : Hid (WfL s) := WfL.pul (by omega)
        have HW2 : Hid (WfL r4) := WfL.pul (by have := HE2.out; omega)
        have eq1 : ((q - 1 : Nat) : Int) = (q : Int) - 1 := by omega
        clear hs f1 f2 f3 hsr HSr HLr
        go_wp2_with fail
        refine (bef_any_calls _ _ _ x _ _ s r4 (by omega) HF1 HE1 HW1 HW2 HLs HL5).mono ?_
        rw [HBF.out]
        rintro e w6 ⟨rfl, d6, rfl⟩
        have HX6 : Hid (∃ mo', Bk (w4.drewN (d5 + d6)) b mo' ∧ Gb w2 (w4.drewN (d5 + d6)) b none mo') := ⟨mo4, HB4.out.drewN (d5 + d6), HG4.out.drewN' (d5 + d6)⟩
        go_wp2
        go_roundw
        case rel => exact ⟨q + 1, by omega, by go_num, HX6⟩
        case measure => simp [intOf]; omega
    · obtain rfl : q = M := by omega
      go_wp2_with fail
      refine (unrank_bad _ b mo3 x y q (WalkArith.wf_i64 (by omega)) (WalkArith.wf_i64 (by omega)) (by omega) HB3 (by show ¬ q < vI x y; rw [vI_nat (by omega) (by omega), ← HE.out]; omega)).mono ?_
      rintro e w4 ⟨rfl, mo4, hB4, hG4⟩
      have HZ4 : Hid (Below w.heap.size w w4) := HZ1.out.trans ((below_book HZ2.out hle (HG3.out.trans hG4)).mono HZ1.out.size)
      clear hB4 hG4
      go_wp2
      go_returns
      exact ⟨rfl, HZ4.out⟩
end Go.Proofs.Ytgjbnkkjajljmaa
