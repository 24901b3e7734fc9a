/-
  What mayHave, bitsInside and Bits of package cost do over a book: whether there may be so many pulses, and what they cost. Nothing that was there is turned but the book's own block and its map.
-/
import Derived.Test.YtfgpmdikkncckaaGreatDoorCostBook
namespace Go.Proofs.YtfgpmdikkncckaaGreatDoor
set_option linter.unusedVariables false
open Go.ChangeShapes Go.WideShapes Go.ChangeAt Go.RowKit

set_option maxHeartbeats 1000000 in
/-- mayHave, of numbers that aren't split. -/
theorem may_low (w : World) (b : Nat) (mo : Option Nat) (n k : Nat) (h1 : 1 ≤ n) (h2 : n ≤ 8) (hk : k ≤ 32) (hB : Hid (Bk w b mo)) :
    Calls Tryz.prog 160 #[.pointer (some ⟨b, 0, none⟩), .int .i64 n, .int .i64 k] w fun e w' => e = .returned (.bool (decide (k ≤ cap n))) ∧ ∃ mo', Bk w' b mo' ∧ Gb w w' b mo mo' := by
  obtain ⟨S, hO, hBk⟩ := hB.out
  have HBk : Hid (BkAt w b mo S) := hBk
  have hvb := vv_bd (n := n) (k := k) (by omega) hk
  have hm := may_is h1 h2 hk
  have HV : Hid (vI n k = vv n k) := vI_at (by omega) (by omega)
  rw [show decide (k ≤ cap n) = decide (vv n k ≤ 1048576) from decide_eq_decide.2 hm.symm]
  have hwn : Hid ((Lit.int .i64 (n : Int)).wf = true) := WalkArith.wf_i64 (by omega)
  have hwk : Hid ((Lit.int .i64 (k : Int)).wf = true) := WalkArith.wf_i64 (by omega)
  generalize vv n k = v at *
  have HC : Hid (decide ((v : Int) ≤ 1048576) = decide (v ≤ 1048576)) := by show decide ((v : Int) ≤ 1048576) = _; exact decide_eq_decide.2 (by omega)
  clear hm hBk hO
  cases hs : S n k with
  | true =>
    have HS : Hid (S n k = true) := hs
    clear hs
    go_enter Tryz.func160, Tryz.ntmps160
    go_wp2_with (go_at_call 70; refine (iss_no _ n (by omega)).mono ?_; rintro e w1 ⟨rfl, hw⟩; obtain rfl := hw.symm; clear hw)
    refine (has_any _ b mo S n k hwn hwk HBk).mono ?_
    rw [HS.out]
    rintro e w1 ⟨rfl, hg1⟩
    have HB1 : Hid (Bk w1 b mo) := hB.out.keep hg1
    have HG1 : Hid (Gb w w1 b mo mo) := Gb.grown hg1 _ _
    clear hg1
    go_wp2_with fail
    refine (vb_calls _ b mo n k HB1).mono ?_
    rw [HV.out]
    rintro e w2 ⟨rfl, mo2, hB2, hG2⟩
    have HX : Hid (∃ mo', Bk w2 b mo' ∧ Gb w w2 b mo mo') := ⟨mo2, hB2, HG1.out.trans hG2⟩
    clear hB2 hG2
    go_wp2
    go_returns
    exact ⟨by rw [← HC.out]; rfl, HX.out⟩
  | false =>
    have HS : Hid (S n k = false) := hs
    clear hs
    go_enter Tryz.func160, Tryz.ntmps160
    go_wp2_with (go_at_call 70; refine (iss_no _ n (by omega)).mono ?_; rintro e w1 ⟨rfl, hw⟩; obtain rfl := hw.symm; clear hw)
    refine (has_any _ b mo S n k hwn hwk HBk).mono ?_
    rw [HS.out]
    rintro e w1 ⟨rfl, hg1⟩
    have HB1 : Hid (Bk w1 b mo) := hB.out.keep hg1
    have HG1 : Hid (w.grownBy w1 none) := hg1
    clear hg1
    go_wp2_with fail
    refine (newb_calls _).mono ?_
    rintro e w2 ⟨b2, rfl, hB2, hb2, hle2⟩
    have HB2 : Hid (Bk w2 b2 none) := hB2
    clear hB2
    go_wp2_with fail
    refine (vb_calls _ b2 none n k HB2).mono ?_
    rw [HV.out]
    rintro e w3 ⟨rfl, mo3, hB3, hG3⟩
    have hg3 : w1.grownBy w3 none := (fun (h : Below w1.heap.size w1 w3) => ⟨h.os, h.tape, h.output, h.size, fun i hi _ => h.block i hi⟩) (below_book hb2 hle2 hG3)
    have HX : Hid (∃ mo', Bk w3 b mo' ∧ Gb w w3 b mo mo') := ⟨mo, HB1.out.keep hg3, Gb.grown (gN_trans HG1.out hg3) _ _⟩
    clear hB3 hG3 hg3 hb2 hle2 HB2 HB1 HG1
    go_wp2
    go_returns
    exact ⟨by rw [← HC.out]; rfl, HX.out⟩

set_option maxHeartbeats 1000000 in
theorem may_in (w : World) (b : Nat) (mo : Option Nat) (n k : Nat) (h1 : 1 ≤ n) (h2 : n ≤ 16) (hk : k ≤ 32) (hB : Hid (Bk w b mo)) :
    Calls Tryz.prog 160 #[.pointer (some ⟨b, 0, none⟩), .int .i64 n, .int .i64 k] w fun e w' => e = .returned (.bool (decide (k ≤ cap n))) ∧ ∃ mo', Bk w' b mo' ∧ Gb w w' b mo mo' := by
  by_cases h8 : n ≤ 8
  · exact may_low w b mo n k h1 h8 hk hB
  · have hh := half_is (n := n) (by omega) h2
    have HL : Hid (∀ w mo, Hid (Bk w b mo) → Calls Tryz.prog 160 #[.pointer (some ⟨b, 0, none⟩), .int .i64 (n / 2 : Nat), .int .i64 k] w fun e w' => e = .returned (.bool (decide (k ≤ cap (n / 2)))) ∧ ∃ mo', Bk w' b mo' ∧ Gb w w' b mo mo') := fun w mo h => may_low w b mo _ k (by omega) (by omega) hk h
    have HR : Hid (∀ w mo, Hid (Bk w b mo) → Calls Tryz.prog 160 #[.pointer (some ⟨b, 0, none⟩), .int .i64 (n - n / 2 : Nat), .int .i64 k] w fun e w' => e = .returned (.bool (decide (k ≤ cap (n - n / 2)))) ∧ ∃ mo', Bk w' b mo' ∧ Gb w w' b mo mo') := fun w mo h => may_low w b mo _ k (by omega) (by omega) hk h
    have HP : Hid (∀ w, Calls Tryz.prog 92 #[.int .i64 n] w fun e w' => e = .returned (.tuple #[.int .i64 ((n / 2 : Nat) : Int), .int .i64 ((n - n / 2 : Nat) : Int)]) ∧ w' = w) := fun w => parts_any w n h2
    rw [hh]
    generalize n / 2 = n1 at *
    generalize n - n1 = n2 at *
    generalize cap n1 = c1 at *
    generalize cap n2 = c2 at *
    clear hh
    by_cases hc1 : k ≤ c1
    · have HC : Hid (decide (k ≤ min c1 c2) = decide (k ≤ c2)) := by show decide _ = _; exact decide_eq_decide.2 (by omega)
      rw [HC.out]
      rw [decide_eq_true hc1] at HL
      generalize decide (k ≤ c2) = z at *
      clear hc1
      go_enter Tryz.func160, Tryz.ntmps160
      go_wp2_with (first | (go_at_call 70; refine (iss_yes _ n (by omega)).mono ?_; rintro e w1 ⟨rfl, hw⟩; obtain rfl := hw.symm; clear hw) | (go_at_call 92; refine (HP.out _).mono ?_; rintro e w1 ⟨rfl, hw⟩; obtain rfl := hw.symm; clear hw))
      refine (HL.out _ mo hB).mono ?_
      rintro e w1 ⟨rfl, mo1, hB1, hG1⟩
      have HB1 : Hid (Bk w1 b mo1) := hB1
      have HG1 : Hid (Gb w w1 b mo mo1) := hG1
      clear hB1 hG1
      go_wp2_with fail
      refine (HR.out _ mo1 HB1).mono ?_
      rintro e w2 ⟨rfl, mo2, hB2, hG2⟩
      have HX : Hid (∃ mo', Bk w2 b mo' ∧ Gb w w2 b mo mo') := ⟨mo2, hB2, HG1.out.trans hG2⟩
      clear hB2 hG2
      go_wp2
      go_returns
      exact ⟨rfl, HX.out⟩
    · rw [decide_eq_false hc1] at HL
      rw [decide_eq_false (by omega)]
      go_enter Tryz.func160, Tryz.ntmps160
      go_wp2_with (first | (go_at_call 70; refine (iss_yes _ n (by omega)).mono ?_; rintro e w1 ⟨rfl, hw⟩; obtain rfl := hw.symm; clear hw) | (go_at_call 92; refine (HP.out _).mono ?_; rintro e w1 ⟨rfl, hw⟩; obtain rfl := hw.symm; clear hw))
      refine (HL.out _ mo hB).mono ?_
      rintro e w1 ⟨rfl, mo1, hB1, hG1⟩
      have HX : Hid (∃ mo', Bk w1 b mo' ∧ Gb w w1 b mo mo') := ⟨mo1, hB1, hG1⟩
      clear hB1 hG1
      go_wp2
      go_returns
      exact ⟨rfl, HX.out⟩

set_option maxHeartbeats 1000000 in
/-- bitsInside. -/
theorem ins_zero (w : World) (b : Nat) (n : Int) : Calls Tryz.prog 161 #[.pointer (some ⟨b, 0, none⟩), .int .i64 n, .int .i64 0] w fun e w' => e = .returned (.int .i64 0) ∧ w' = w := by
  go_enter Tryz.func161, Tryz.ntmps161
  go_wp2
  go_returns
  exact ⟨rfl, rfl⟩
set_option maxHeartbeats 1000000 in
theorem ins_low (w : World) (b : Nat) (mo : Option Nat) (n k : Nat) (h1 : 1 ≤ n) (h2 : n ≤ 8) (hk : k ≤ cap n) (hB : Hid (Bk w b mo)) :
    Calls Tryz.prog 161 #[.pointer (some ⟨b, 0, none⟩), .int .i64 n, .int .i64 k] w fun e w' => e = .returned (.int .i64 (bt n k : Nat)) ∧ ∃ mo', Bk w' b mo' ∧ Gb w w' b mo mo' := by
  obtain ⟨c0, c1, _⟩ := cap_bd (n := n) (by omega)
  by_cases k0 : k = 0
  · subst k0
    rw [c1]
    refine (ins_zero w b n).mono ?_
    rintro e w' ⟨rfl, rfl⟩
    exact ⟨rfl, mo, hB.out, Gb.refl _ _ _⟩
  · have k0' : ¬ (k : Int) = 0 := by omega
    have HV : Hid (vI n k = vv n k) := vI_at (by omega) (by omega)
    have HR : Hid _ := rank_is h1 h2 (by omega) hk
    have hv1 := v_two h1 h2 (k := k) (by omega) (by omega)
    have hv2 := (may_is h1 h2 (k := k) (by omega)).2 hk
    have hbb := bt_bd (n := n) (k := k) (by omega) (by omega)
    obtain ⟨x, hx⟩ : ∃ x, bt n k = x := ⟨_, rfl⟩
    rw [hx] at HR hbb ⊢
    generalize vv n k = v at *
    clear hx c0 c1 hk
    go_enter Tryz.func161, Tryz.ntmps161
    go_wp2_with (go_at_call 70; refine (iss_no _ n (by omega)).mono ?_; rintro e w1 ⟨rfl, hw⟩; obtain rfl := hw.symm; clear hw)
    refine (vb_calls _ b mo n k hB).mono ?_
    rw [HV.out]
    rintro e w2 ⟨rfl, mo2, hB2, hG2⟩
    have HX : Hid (∃ mo', Bk w2 b mo' ∧ Gb w w2 b mo mo') := ⟨mo2, hB2, hG2⟩
    clear hB2 hG2
    go_wp2_with fail
    refine (rankBits_any _ v (by omega) hv2).mono ?_
    rw [HR.out]
    rintro e w3 ⟨rfl, hw⟩
    obtain rfl := hw.symm
    clear hw
    go_wp2
    go_returns
    exact ⟨rfl, HX.out⟩

set_option maxHeartbeats 2000000 in
theorem ins_in (w : World) (b : Nat) (mo : Option Nat) (n k : Nat) (h1 : 1 ≤ n) (h2 : n ≤ 16) (hk : k ≤ cap n) (hB : Hid (Bk w b mo)) :
    Calls Tryz.prog 161 #[.pointer (some ⟨b, 0, none⟩), .int .i64 n, .int .i64 k] w fun e w' => e = .returned (.int .i64 (bt n k : Nat)) ∧ ∃ mo', Bk w' b mo' ∧ Gb w w' b mo mo' := by
  by_cases h8 : n ≤ 8
  · exact ins_low w b mo n k h1 h8 hk hB
  obtain ⟨c0, c1, _⟩ := cap_bd (n := n) (by omega)
  by_cases k0 : k = 0
  · subst k0
    rw [c1]
    refine (ins_zero w b n).mono ?_
    rintro e w' ⟨rfl, rfl⟩
    exact ⟨rfl, mo, hB.out, Gb.refl _ _ _⟩
  · have k0' : ¬ (k : Int) = 0 := by omega
    have hh := half_is (n := n) (by omega) h2
    have HD : Hid _ := dear_is (n := n) (k := k) (by omega) h2 (by omega) hk
    have hk32 : k ≤ 32 := by omega
    have HL : Hid (∀ q, q ≤ k → bt (n / 2) q ≤ 41 ∧ ∀ w mo, Hid (Bk w b mo) → Calls Tryz.prog 161 #[.pointer (some ⟨b, 0, none⟩), .int .i64 (n / 2 : Nat), .int .i64 q] w fun e w' => e = .returned (.int .i64 (bt (n / 2) q : Nat)) ∧ ∃ mo', Bk w' b mo' ∧ Gb w w' b mo mo') := fun q hq => ⟨bt_bd (by omega) (by omega), fun w mo h => ins_low w b mo _ q (by omega) (by omega) (by omega) h⟩
    have HR : Hid (∀ q, q ≤ k → bt (n - n / 2) q ≤ 41 ∧ ∀ w mo, Hid (Bk w b mo) → Calls Tryz.prog 161 #[.pointer (some ⟨b, 0, none⟩), .int .i64 (n - n / 2 : Nat), .int .i64 q] w fun e w' => e = .returned (.int .i64 (bt (n - n / 2) q : Nat)) ∧ ∃ mo', Bk w' b mo' ∧ Gb w w' b mo mo') := fun q hq => ⟨bt_bd (by omega) (by omega), fun w mo h => ins_low w b mo _ q (by omega) (by omega) (by omega) h⟩
    have HP : Hid (∀ w, Calls Tryz.prog 92 #[.int .i64 n] w fun e w' => e = .returned (.tuple #[.int .i64 ((n / 2 : Nat) : Int), .int .i64 ((n - n / 2 : Nat) : Int)]) ∧ w' = w) := fun w => parts_any w n h2
    have HSP : Hid (∀ w, Calls Tryz.prog 93 #[.int .i64 k] w fun e w' => e = .returned (.int .i64 ((lenN k + 1 : Nat) : Int)) ∧ w' = w) := fun w => splitBits_any w k (by omega)
    have hll := (lenN_spec (x := k) (by omega)).2.2
    have HDB : Hid (∀ q, q ≤ k + 1 → dear (bt (n / 2)) (bt (n - n / 2)) k q ≤ 82) := dear_bd (fun q h => (HL.out q h).1) (fun q h => (HR.out q h).1)
    obtain ⟨x, hx⟩ : ∃ x, bt n k = x := ⟨_, rfl⟩
    rw [hx] at HD ⊢
    clear hx hh hk c0 c1
    generalize n / 2 = n1 at *
    generalize n - n1 = n2 at *
    generalize bt n1 = f at *
    generalize bt n2 = g at *
    generalize lenN k = l at *
    go_enter Tryz.func161, Tryz.ntmps161
    go_wp2_with (first | (go_at_call 70; refine (iss_yes _ n (by omega)).mono ?_; rintro e w1 ⟨rfl, hw⟩; obtain rfl := hw.symm; clear hw) | (go_at_call 92; refine (HP.out _).mono ?_; rintro e w1 ⟨rfl, hw⟩; obtain rfl := hw.symm; clear hw))
    go_loopw [9, 30] (fun m a wr => ∃ q m0 : Nat, q ≤ k + 1 ∧ m0 ≤ 82 ∧ a = .int .i64 q ∧ m = .int .i64 m0 ∧ Hid (dear f g k q = m0) ∧ Hid (∃ mo', Bk wr b mo' ∧ Gb w wr b mo mo')) (fun _ a _ => k + 1 - (intOf a).toNat)
    case atStart => exact ⟨0, 0, by omega, by omega, rfl, rfl, rfl, mo, hB.out, Gb.refl _ _ _⟩
    case round =>
      obtain ⟨q, m0, hq, hm0, rfl, rfl, HM, HW⟩ := hrel
      by_cases hlt : q < k + 1
      · have hlt' : (q : Int) < (k : Int) + 1 := by omega
        obtain ⟨f1, cf⟩ := HL.out q (by omega)
        obtain ⟨g1, cg⟩ := HR.out (k - q) (by omega)
        have HF : Hid (∀ w mo, Hid (Bk w b mo) → Calls Tryz.prog 161 #[.pointer (some ⟨b, 0, none⟩), .int .i64 n1, .int .i64 q] w fun e w' => e = .returned (.int .i64 (f q : Nat)) ∧ ∃ mo', Bk w' b mo' ∧ Gb w w' b mo mo') := cf
        have HG : Hid (∀ w mo, Hid (Bk w b mo) → Calls Tryz.prog 161 #[.pointer (some ⟨b, 0, none⟩), .int .i64 n2, .int .i64 (k - q : Nat)] w fun e w' => e = .returned (.int .i64 (g (k - q) : Nat)) ∧ ∃ mo', Bk w' b mo' ∧ Gb w w' b mo mo') := cg
        have HDE : Hid (dear f g k (q + 1) = max (dear f g k q) (f q + g (k - q))) := by show dear f g k (q + 1) = _; rw [dear]
        have em : (k : Int) - (q : Int) = ((k - q : Nat) : Int) := by omega
        have EM : Hid _ := em
        obtain ⟨mo1, hB1, hG1⟩ := HW.out
        have HB1 : Hid (Bk wr b mo1) := hB1
        have HG1 : Hid (Gb w wr b mo mo1) := hG1
        clear hB1 hG1 HW cf cg em
        generalize f q = x0 at *
        generalize g (k - q) = y0 at *
        go_wp2_with fail
        refine (HF.out _ mo1 HB1).mono ?_
        rintro e w2 ⟨rfl, mo2, hB2, hG2⟩
        have HB2 : Hid (Bk w2 b mo2) := hB2
        have HG2 : Hid (Gb w w2 b mo mo2) := HG1.out.trans hG2
        clear hB2 hG2
        go_wp2_with fail
        rw [EM.out]
        refine (HG.out _ mo2 HB2).mono ?_
        rintro e w3 ⟨rfl, mo3, hB3, hG3⟩
        have HX : Hid (∃ mo', Bk w3 b mo' ∧ Gb w w3 b mo mo') := ⟨mo3, hB3, HG2.out.trans hG3⟩
        clear hB3 hG3
        by_cases hc : m0 < x0 + y0
        · have hc' : (m0 : Int) < (x0 : Int) + (y0 : Int) := by omega
          go_wp2
          go_roundw
          case rel => exact ⟨q + 1, x0 + y0, by omega, by omega, by go_num, by go_num, by show _ = _; rw [HDE.out, HM.out]; omega, HX⟩
          case measure => simp [intOf]; omega
        · have hc' : ¬ (m0 : Int) < (x0 : Int) + (y0 : Int) := by omega
          go_wp2
          go_roundw
          case rel => exact ⟨q + 1, m0, by omega, by omega, by go_num, by go_num, by show _ = _; rw [HDE.out, HM.out]; omega, HX⟩
          case measure => simp [intOf]; omega
      · obtain rfl : q = k + 1 := by omega
        rw [HM.out] at HD
        go_wp2_with (go_at_call 93; refine (HSP.out _).mono ?_; rintro e w1 ⟨rfl, hw⟩; obtain rfl := hw.symm; clear hw)
        go_returns
        exact ⟨by rw [← HD.out]; (first | rfl | (simp; done)), HW.out⟩

/-- Bits. -/
theorem bits_none (w : World) (b : Nat) (n k : Int) (h : ¬ (1 ≤ n ∧ n ≤ 16)) : Calls Tryz.prog 157 #[.pointer (some ⟨b, 0, none⟩), .int .i64 n, .int .i64 k] w fun e w' => e = .returned (.int .i64 (-1)) ∧ w' = w := by
  go_enter Tryz.func157, Tryz.ntmps157
  go_wp2_with (go_at_call 72; refine (hasn_no _ n h).mono ?_; rintro e w1 ⟨rfl, hw⟩; obtain rfl := hw.symm; clear hw)
  go_returns
  exact ⟨rfl, rfl⟩
theorem bits_far (w : World) (b : Nat) (n k : Int) (h1 : 1 ≤ n) (h2 : n ≤ 16) (h : k < 0 ∨ 32 < k) : Calls Tryz.prog 157 #[.pointer (some ⟨b, 0, none⟩), .int .i64 n, .int .i64 k] w fun e w' => e = .returned (.int .i64 (-1)) ∧ w' = w := by
  by_cases h3 : k < 0
  · clear h
    go_enter Tryz.func157, Tryz.ntmps157
    go_wp2_with (go_at_call 72; refine (hasn_yes _ n (by omega) (by omega)).mono ?_; rintro e w1 ⟨rfl, hw⟩; obtain rfl := hw.symm; clear hw)
    go_returns
    exact ⟨rfl, rfl⟩
  · have h4 : 32 < k := by omega
    clear h
    go_enter Tryz.func157, Tryz.ntmps157
    go_wp2_with (go_at_call 72; refine (hasn_yes _ n (by omega) (by omega)).mono ?_; rintro e w1 ⟨rfl, hw⟩; obtain rfl := hw.symm; clear hw)
    go_returns
    exact ⟨rfl, rfl⟩
set_option maxHeartbeats 1000000 in
theorem bits_in (w : World) (b : Nat) (mo : Option Nat) (n k : Nat) (h1 : 1 ≤ n) (h2 : n ≤ 16) (hk : k ≤ 32) (hB : Hid (Bk w b mo)) :
    Calls Tryz.prog 157 #[.pointer (some ⟨b, 0, none⟩), .int .i64 n, .int .i64 k] w fun e w' => e = .returned (.int .i64 (btI n k)) ∧ ∃ mo', Bk w' b mo' ∧ Gb w w' b mo mo' := by
  have a1 : ¬ (k : Int) < 0 := by omega
  have a2 : ¬ (32 : Int) < (k : Int) := by omega
  by_cases hc : k ≤ cap n
  · rw [btI_nat h1 h2 hc]
    obtain ⟨x, hx⟩ : ∃ x, bt n k = x := ⟨_, rfl⟩
    have HX0 : Hid (bt n k = x) := hx
    have HC : Hid (k ≤ cap n) := hc
    have HCD : Hid (decide (k ≤ cap n) = true) := decide_eq_true hc
    rw [hx]
    clear hx hc
    go_enter Tryz.func157, Tryz.ntmps157
    go_wp2_with (go_at_call 72; refine (hasn_yes _ n (by omega) (by omega)).mono ?_; rintro e w1 ⟨rfl, hw⟩; obtain rfl := hw.symm; clear hw)
    refine (may_in _ b mo n k h1 h2 hk hB).mono ?_
    rw [HCD.out]
    rintro e w2 ⟨rfl, mo2, hB2, hG2⟩
    have HB2 : Hid (Bk w2 b mo2) := hB2
    have HG2 : Hid (Gb w w2 b mo mo2) := hG2
    clear hB2 hG2
    go_wp2_with fail
    refine (ins_in _ b mo2 n k h1 h2 HC.out HB2).mono ?_
    rw [HX0.out]
    rintro e w3 ⟨rfl, mo3, hB3, hG3⟩
    have HX : Hid (∃ mo', Bk w3 b mo' ∧ Gb w w3 b mo mo') := ⟨mo3, hB3, HG2.out.trans hG3⟩
    clear hB3 hG3
    go_wp2
    go_returns
    exact ⟨rfl, HX.out⟩
  · rw [btI_over (n := n) (k := k) (by omega)]
    have HCD : Hid (decide (k ≤ cap n) = false) := decide_eq_false hc
    clear hc
    go_enter Tryz.func157, Tryz.ntmps157
    go_wp2_with (go_at_call 72; refine (hasn_yes _ n (by omega) (by omega)).mono ?_; rintro e w1 ⟨rfl, hw⟩; obtain rfl := hw.symm; clear hw)
    refine (may_in _ b mo n k h1 h2 hk hB).mono ?_
    rw [HCD.out]
    rintro e w2 ⟨rfl, mo2, hB2, hG2⟩
    have HX : Hid (∃ mo', Bk w2 b mo' ∧ Gb w w2 b mo mo') := ⟨mo2, hB2, hG2⟩
    clear hB2 hG2
    go_wp2
    go_returns
    exact ⟨rfl, HX.out⟩
theorem bits_any (w : World) (b : Nat) (mo : Option Nat) (n k : Int) (hB : Hid (Bk w b mo)) :
    Calls Tryz.prog 157 #[.pointer (some ⟨b, 0, none⟩), .int .i64 n, .int .i64 k] w fun e w' => e = .returned (.int .i64 (btI n k)) ∧ ∃ mo', Bk w' b mo' ∧ Gb w w' b mo mo' := by
  by_cases h : 1 ≤ n ∧ n ≤ 16
  · obtain ⟨m, rfl⟩ : ∃ m : Nat, n = m := ⟨n.toNat, by omega⟩
    by_cases hk : k < 0 ∨ 32 < k
    · have e : btI m k = -1 := by
        have := (cap_bd (n := m) (by omega)).1
        rcases hk with hk | hk
        · exact btI_low _ hk
        · exact btI_over (by omega)
      rw [e]
      refine (bits_far w b m k h.1 h.2 hk).mono ?_
      rintro e w' ⟨rfl, rfl⟩
      exact ⟨rfl, mo, hB.out, Gb.refl _ _ _⟩
    · obtain ⟨j, rfl⟩ : ∃ j : Nat, k = j := ⟨k.toNat, by omega⟩
      exact bits_in w b mo m j (by omega) (by omega) (by omega) hB
  · rw [btI_no k h]
    refine (bits_none w b n k h).mono ?_
    rintro e w' ⟨rfl, rfl⟩
    exact ⟨rfl, mo, hB.out, Gb.refl _ _ _⟩
end Go.Proofs.YtfgpmdikkncckaaGreatDoor
