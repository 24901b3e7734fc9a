/-
  What greatest, Cap, mayHave, bitsInside and Bits of package cost do over a book: how many pulses there may be, and what they cost, is answered; what was needed is noted in the book. Nothing that was there is turned but the book's own block and its map.
-/
import Derived.Test.YtfgpmdikkncckaaGreatDoorCostCalls
namespace Go.Proofs.YtfgpmdikkncckaaGreatDoor
set_option linter.unusedVariables false
open Go.ChangeShapes Go.WideShapes Go.ChangeAt Go.RowKit

theorem vI_at {n k : Nat} (hn : n ≤ 16) (hk : k ≤ 32) : vI n k = vv n k := by unfold vI; rw [if_pos (by omega)]; rfl

set_option maxHeartbeats 1000000 in
/-- greatest, of a book. -/
theorem great_book (w : World) (b : Nat) (mo : Option Nat) (n : Nat) (h1 : 1 ≤ n) (h2 : n ≤ 8) (hB : Hid (Bk w b mo)) :
    Calls Tryz.prog 95 #[.iface 79 (.pointer (some ⟨b, 0, none⟩)), .int .i64 n] w fun e w' => e = .returned (.int .i64 (cap n : Nat)) ∧ ∃ mo', Bk w' b mo' ∧ Gb w w' b mo mo' := by
  have HC : Hid (gr n 33 = cap n) := gr_is h1 h2
  go_enter Tryz.func95, Tryz.ntmps95
  go_wp2
  go_loopw [5, 7] (fun m i wr => ∃ q m0 : Nat, q ≤ 33 ∧ m0 ≤ 33 ∧ i = .int .i64 q ∧ m = .int .i64 m0 ∧ Hid (gr n q = m0) ∧ Hid (∃ mo', Bk wr b mo' ∧ Gb w wr b mo mo')) (fun _ i _ => 33 - (intOf i).toNat)
  case atStart => exact ⟨0, 0, by omega, by omega, rfl, rfl, rfl, mo, hB.out, Gb.refl _ _ _⟩
  case round =>
    obtain ⟨q, m0, hq, hm0, rfl, rfl, HM, HW⟩ := hrel
    by_cases hlt : q < 33
    · have hlt' : (q : Int) < 33 := by omega
      obtain ⟨mo1, hB1, hG1⟩ := HW.out
      have HB1 : Hid (Bk wr b mo1) := hB1
      have HG1 : Hid (Gb w wr b mo mo1) := hG1
      have HV : Hid (vI n q = vv n q) := vI_at (by omega) (by omega)
      have HS : Hid (gr n (q + 1) = if vv n q ≤ 1048576 then q else gr n q) := by show gr n (q + 1) = _; rw [gr]
      obtain ⟨v, hv⟩ : ∃ v, vv n q = v := ⟨_, rfl⟩
      rw [hv] at HV HS
      clear hv hB1 hG1 HW
      by_cases hc : v ≤ 1048576
      · have hc' : (v : Int) ≤ 1048576 := by omega
        go_wp2_with fail
        refine (vb_calls _ b mo1 _ _ HB1).mono ?_
        rw [HV.out]
        rintro e w2 ⟨rfl, mo2, hB2, hG2⟩
        have HX : Hid (∃ mo', Bk w2 b mo' ∧ Gb w w2 b mo mo') := ⟨mo2, hB2, HG1.out.trans hG2⟩
        clear hB2 hG2
        go_wp2
        go_roundw
        case rel => exact ⟨q + 1, q, by omega, by omega, by go_num, rfl, by show _ = _; rw [HS.out, if_pos hc], HX⟩
        case measure => simp [intOf]; omega
      · have hc' : ¬ (v : Int) ≤ 1048576 := by omega
        go_wp2_with fail
        refine (vb_calls _ b mo1 _ _ HB1).mono ?_
        rw [HV.out]
        rintro e w2 ⟨rfl, mo2, hB2, hG2⟩
        have HX : Hid (∃ mo', Bk w2 b mo' ∧ Gb w w2 b mo mo') := ⟨mo2, hB2, HG1.out.trans hG2⟩
        clear hB2 hG2
        go_wp2
        go_roundw
        case rel => exact ⟨q + 1, m0, by omega, by omega, by go_num, rfl, by show _ = _; rw [HS.out, if_neg hc]; exact HM.out, HX⟩
        case measure => simp [intOf]; omega
    · obtain rfl : q = 33 := by omega
      go_wp2
      go_returns
      exact ⟨by rw [← HC.out, HM.out]; rfl, HW.out⟩

/-- Cap. -/
theorem cap_out (w : World) (b : Nat) (n : Int) (h : ¬ (1 ≤ n ∧ n ≤ 16)) : Calls Tryz.prog 155 #[.pointer (some ⟨b, 0, none⟩), .int .i64 n] w fun e w' => e = .returned (.int .i64 (-1)) ∧ w' = w := by
  go_enter Tryz.func155, Tryz.ntmps155
  go_wp2_with (go_at_call 72; refine (hasn_no _ n h).mono ?_; rintro e w1 ⟨rfl, hw⟩; obtain rfl := hw.symm; clear hw)
  go_returns
  exact ⟨rfl, rfl⟩
theorem cap_low (w : World) (b : Nat) (mo : Option Nat) (n : Nat) (h1 : 1 ≤ n) (h2 : n ≤ 8) (hB : Hid (Bk w b mo)) :
    Calls Tryz.prog 155 #[.pointer (some ⟨b, 0, none⟩), .int .i64 n] w fun e w' => e = .returned (.int .i64 (cap n : Nat)) ∧ ∃ mo', Bk w' b mo' ∧ Gb w w' b mo mo' := by
  obtain ⟨c, hc⟩ : ∃ c, cap n = c := ⟨_, rfl⟩
  have HC : Hid (cap n = c) := hc
  rw [hc]
  clear hc
  go_enter Tryz.func155, Tryz.ntmps155
  go_wp2_with (first | (go_at_call 72; refine (hasn_yes _ n (by omega) (by omega)).mono ?_; rintro e w1 ⟨rfl, hw⟩; obtain rfl := hw.symm; clear hw) | (go_at_call 70; refine (iss_no _ n (by omega)).mono ?_; rintro e w1 ⟨rfl, hw⟩; obtain rfl := hw.symm; clear hw))
  refine (great_book _ b mo n h1 h2 hB).mono ?_
  rw [HC.out]
  rintro e w1 ⟨rfl, hX⟩
  have HX : Hid (∃ mo', Bk w1 b mo' ∧ Gb w w1 b mo mo') := hX
  clear hX
  go_wp2
  go_returns
  exact ⟨rfl, HX.out⟩
set_option maxHeartbeats 1000000 in
theorem cap_in (w : World) (b : Nat) (mo : Option Nat) (n : Nat) (h1 : 1 ≤ n) (h2 : n ≤ 16) (hB : Hid (Bk w b mo)) :
    Calls Tryz.prog 155 #[.pointer (some ⟨b, 0, none⟩), .int .i64 n] w fun e w' => e = .returned (.int .i64 (cap n : Nat)) ∧ ∃ mo', Bk w' b mo' ∧ Gb w w' b mo mo' := by
  by_cases h8 : n ≤ 8
  · exact cap_low w b mo n h1 h8 hB
  · have hb1 := (cap_bd (n := n / 2) (by omega)).1
    have hb2 := (cap_bd (n := n - n / 2) (by omega)).1
    have hh := half_is (n := n) (by omega) h2
    have HL : Hid (∀ w mo, Hid (Bk w b mo) → Calls Tryz.prog 155 #[.pointer (some ⟨b, 0, none⟩), .int .i64 (n / 2 : Nat)] w fun e w' => e = .returned (.int .i64 (cap (n / 2) : Nat)) ∧ ∃ mo', Bk w' b mo' ∧ Gb w w' b mo mo') := fun w mo h => cap_low w b mo _ (by omega) (by omega) h
    have HR : Hid (∀ w mo, Hid (Bk w b mo) → Calls Tryz.prog 155 #[.pointer (some ⟨b, 0, none⟩), .int .i64 (n - n / 2 : Nat)] w fun e w' => e = .returned (.int .i64 (cap (n - n / 2) : Nat)) ∧ ∃ mo', Bk w' b mo' ∧ Gb w w' b mo mo') := fun w mo h => cap_low w b mo _ (by omega) (by omega) h
    have HP : Hid (∀ w, Calls Tryz.prog 92 #[.int .i64 n] w fun e w' => e = .returned (.tuple #[.int .i64 ((n / 2 : Nat) : Int), .int .i64 ((n - n / 2 : Nat) : Int)]) ∧ w' = w) := fun w => parts_any w n h2
    rw [hh]
    generalize n / 2 = n1 at *
    generalize n - n1 = n2 at *
    generalize cap n1 = c1 at *
    generalize cap n2 = c2 at *
    obtain ⟨c, hc⟩ : ∃ c, min c1 c2 = c := ⟨_, rfl⟩
    rw [hc]
    have HCI : Hid (min (c1 : Int) (c2 : Int) = (c : Int)) := by show _ = _; omega
    clear hh hc
    go_enter Tryz.func155, Tryz.ntmps155
    go_wp2_with (first | (go_at_call 72; refine (hasn_yes _ n (by omega) (by omega)).mono ?_; rintro e w1 ⟨rfl, hw⟩; obtain rfl := hw.symm; clear hw) | (go_at_call 70; refine (iss_yes _ n (by omega)).mono ?_; rintro e w1 ⟨rfl, hw⟩; obtain rfl := hw.symm; clear hw) | (go_at_call 92; refine (HP.out _).mono ?_; rintro e w1 ⟨rfl, hw⟩; obtain rfl := hw.symm; clear hw))
    refine (HL.out _ mo hB).mono ?_
    rintro e w1 ⟨rfl, mo1, hB1, hG1⟩
    have HB1 : Hid (Bk w1 b mo1) := hB1
    have HG1 : Hid (Gb w w1 b mo mo1) := hG1
    clear hB1 hG1
    go_wp2_with fail
    refine (HR.out _ mo1 HB1).mono ?_
    rintro e w2 ⟨rfl, mo2, hB2, hG2⟩
    have HX : Hid (∃ mo', Bk w2 b mo' ∧ Gb w w2 b mo mo') := ⟨mo2, hB2, HG1.out.trans hG2⟩
    clear hB2 hG2
    by_cases hlt : (c2 : Int) < (c1 : Int)
    · go_wp2
      go_returns
      exact ⟨by rw [show (c : Int) = (c2 : Int) by have := HCI.out; omega]; rfl, HX.out⟩
    · go_wp2
      go_returns
      exact ⟨by rw [show (c : Int) = (c1 : Int) by have := HCI.out; omega]; rfl, HX.out⟩
theorem cap_any (w : World) (b : Nat) (mo : Option Nat) (n : Int) (hB : Hid (Bk w b mo)) :
    Calls Tryz.prog 155 #[.pointer (some ⟨b, 0, none⟩), .int .i64 n] w fun e w' => e = .returned (.int .i64 (capI n)) ∧ ∃ mo', Bk w' b mo' ∧ Gb w w' b mo mo' := by
  by_cases h : 1 ≤ n ∧ n ≤ 16
  · obtain ⟨m, rfl⟩ : ∃ m : Nat, n = m := ⟨n.toNat, by omega⟩
    rw [capI_nat (by omega) (by omega)]
    exact cap_in w b mo m (by omega) (by omega) hB
  · rw [capI_out h]
    refine (cap_out w b n h).mono ?_
    rintro e w' ⟨rfl, rfl⟩
    exact ⟨rfl, mo, hB.out, Gb.refl _ _ _⟩
end Go.Proofs.YtfgpmdikkncckaaGreatDoor
