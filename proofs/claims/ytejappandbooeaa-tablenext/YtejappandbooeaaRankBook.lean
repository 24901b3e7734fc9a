/-
  What Rank, isThere, first and Unrank of package rank do over a book: a right vector's rank, the vector of a rank that there is; what was needed is noted in the book. Nothing that was there is turned but the book's own block and its map.
-/
import Derived.Test.YtejappandbooeaaRankCalls
namespace Go.Proofs.Ytejappandbooeaa
set_option linter.unusedVariables false
open Go.ChangeShapes Go.WideShapes Go.ChangeAt Go.RowKit

/-- A book at b, whatever is noted in it; and what a call on it turns. -/
def Bk (w : World) (b : Nat) (mo : Option Nat) : Prop := ∃ S, Ok S ∧ BkAt w b mo S

theorem Bk.lat {w w' : World} {b : Nat} {mo mo' : Option Nat} {ao : Option Addr} {r : List Int} (hB : Bk w b mo) (hG : Gb w w' b mo mo') (h : LAt w ao r) : LAt w' ao r := by
  obtain ⟨S, _, hB⟩ := hB
  exact h.gb hB hG
theorem Bk.alloc {w : World} {b : Nat} {mo : Option Nat} (h : Bk w b mo) (o : Obj) : Bk (w.alloc o) b mo := by
  obtain ⟨S, h1, h2⟩ := h
  exact ⟨S, h1, h2.alloc o⟩
theorem Bk.lt {w : World} {b : Nat} {mo : Option Nat} (h : Bk w b mo) : b < w.heap.size := by
  obtain ⟨S, h1, h2⟩ := h
  exact h2.lt
theorem Bk.keep {w w' : World} {b : Nat} {mo : Option Nat} (h : Bk w b mo) (hg : w.grownBy w' none) : Bk w' b mo := by
  obtain ⟨S, h1, h2⟩ := h
  exact ⟨S, h1, h2.keep hg⟩
theorem Bk.drewN {w : World} {b : Nat} {mo : Option Nat} (h : Bk w b mo) (d : Nat) : Bk (w.drewN d) b mo := h
theorem vb_calls (w : World) (b : Nat) (mo : Option Nat) (n k : Int) (h : Hid (Bk w b mo)) :
    Calls Try.prog 19 #[.pointer (some ⟨b, 0, none⟩), .int .i64 n, .int .i64 k] w fun e w' => e = .returned (.int .u64 (vI n k : Nat)) ∧ ∃ mo', Bk w' b mo' ∧ Gb w w' b mo mo' := by
  obtain ⟨S, hO, hB⟩ := h.out
  refine (v_calls w b mo S n k hB hO).mono ?_
  rintro e w' ⟨rfl, mo', hB', hG'⟩
  exact ⟨rfl, mo', ⟨_, hO.un _ _, hB'⟩, hG'⟩
theorem newb_calls (w : World) : Calls Try.prog 18 #[] w fun e w' => ∃ b, e = .returned (.pointer (some ⟨b, 0, none⟩)) ∧ Bk w' b none ∧ Below w.heap.size w w' ∧ w.heap.size ≤ b := by
  refine (new_calls w).mono ?_
  rintro e w' ⟨b, rfl, h1, h2, h3⟩
  exact ⟨b, rfl, ⟨_, Ok.no, h1⟩, h2, h3⟩

/-- Rank of what is no right vector. -/
theorem rank_bad (w : World) (b : Nat) (ao : Option Addr) (n cap : Nat) (r : List Int) (hn : n ≤ 60) (hc : n ≤ cap) (hc2 : cap ≤ 9223372036854775807) (hr : Hid (r.length = n)) (hw : Hid (WfL r)) (h : Hid (LAt w ao r)) (hbad : 16 < n ∨ ¬ pul r ≤ 32) :
    Calls Try.prog 21 #[.pointer (some ⟨b, 0, none⟩), .slice ao n cap] w fun e w' => e = .returned (.tuple #[.int .u64 0, .int .i64 2]) ∧ w' = w := by
  have hb := pul1_le r
  rw [hr.out] at hb
  obtain ⟨k, hk⟩ : ∃ k, pul1 r = k := ⟨_, rfl⟩
  have HK : Hid (pul1 r = k) := hk
  rw [hk] at hb
  by_cases h16 : 16 < n
  · have h16' : (16 : Int) < n := by omega
    clear hbad hk
    go_enter Try.func21, Try.ntmps21
    go_wp2_with (go_at_call 35; refine (pulses_calls _ _ n cap r (by omega) hc hc2 hr hw h).mono ?_; rw [HK.out]; rintro e w1 ⟨rfl, hw1⟩; obtain rfl := hw1.symm; clear hw1)
    go_returns
    exact ⟨rfl, rfl⟩
  · have h16' : ¬ (16 : Int) < n := by omega
    have hk2 : ¬ k ≤ 32 := by rw [← hk]; exact pul1_more r (by omega)
    have hk3 : (32 : Int) < k := by omega
    have hk4 : decide (32 < k) = true := decide_eq_true (by omega)
    clear hbad hk
    go_enter Try.func21, Try.ntmps21
    go_wp2_with (go_at_call 35; refine (pulses_calls _ _ n cap r (by omega) hc hc2 hr hw h).mono ?_; rw [HK.out]; rintro e w1 ⟨rfl, hw1⟩; obtain rfl := hw1.symm; clear hw1)
    go_returns
    exact ⟨rfl, rfl⟩

theorem rk_drop {r : List Int} {q : Nat} {x : Int} (h : r[q]? = some x) (k : Nat) : rk (r.drop q) k = sm (r.length - q - 1) k (place x) + rk (r.drop (q + 1)) (k - x.natAbs) := by
  have hl := (List.getElem?_eq_some_iff.1 h).1
  rw [drop_at h, rk, List.length_drop]
  rw [show r.length - (q + 1) = r.length - q - 1 by omega]

set_option maxHeartbeats 2000000 in
/-- Rank of a right vector. -/
theorem rank_good (w : World) (b : Nat) (mo : Option Nat) (ao : Option Addr) (n cap : Nat) (r : List Int) (hn : n ≤ 16) (hc : n ≤ cap) (hc2 : cap ≤ 9223372036854775807) (hr : Hid (r.length = n)) (k : Nat) (hk : k ≤ 32) (hp : Hid (pul r = k)) (h : Hid (LAt w ao r)) (hB : Hid (Bk w b mo)) :
    Calls Try.prog 21 #[.pointer (some ⟨b, 0, none⟩), .slice ao n cap] w fun e w' => e = .returned (.tuple #[.int .u64 (rk r k : Nat), .int .i64 0]) ∧ ∃ mo', Bk w' b mo' ∧ Gb w w' b mo mo' := by
  have hn' : ¬ (16 : Int) < n := by omega
  have hk' : ¬ (32 : Int) < k := by omega
  have hkd : decide (32 < k) = false := decide_eq_false (by omega)
  go_enter Try.func21, Try.ntmps21
  go_wp2_with (go_at_call 35; refine (pulses_right _ _ n cap r hn hc hc2 hr k hp.out (by omega) h).mono ?_; rintro e w1 ⟨rfl, hw1⟩; obtain rfl := hw1.symm; clear hw1)
  go_loopw [6, 7, 23] (fun kk s i wr => ∃ q j s0 : Nat, q ≤ n ∧ j ≤ 32 ∧ kk = .int .i64 j ∧ i = .int .i64 q ∧ s = .int .u64 s0 ∧ s0 ≤ 2460955893981184 ∧ Hid (pul (r.drop q) = j) ∧ Hid (s0 + rk (r.drop q) j = rk r k) ∧ Hid (∃ mo', Bk wr b mo' ∧ Gb w wr b mo mo')) (fun _ _ i _ => n - (intOf i).toNat)
  case atStart => exact ⟨0, k, 0, by omega, hk, rfl, rfl, rfl, by omega, hp, by show 0 + rk (r.drop 0) k = rk r k; simp, mo, hB.out, Gb.refl _ _ _⟩
  case round =>
    obtain ⟨q, j, s0, hq, hj, rfl, rfl, rfl, hs0, HJ, HS, HW⟩ := hrel
    by_cases hlt : q < n
    · have hlt' : (q : Int) < (n : Int) := by omega
      obtain ⟨x, hx⟩ : ∃ x, r[q]? = some x := ⟨_, List.getElem?_eq_getElem (by rw [hr.out]; exact hlt)⟩
      obtain ⟨mo1, hB1, hG1⟩ := HW.out
      have HB1 : Hid (Bk wr b mo1) := hB1
      have HG1 : Hid (Gb w wr b mo mo1) := hG1
      obtain ⟨bl, off, rfl, c0⟩ := (hB.out.lat hG1 h.out) q x hx
      have HX : Hid (r[q]? = some x) := hx
      have hxj : x.natAbs ≤ j := by have := pul_drop r q x hx; rw [HJ.out] at this; omega
      have HSX : Hid _ := rk_drop hx j
      have HPD : Hid _ := pul_drop r q x hx
      clear hB1 hG1 HW hx
      obtain ⟨P, hP⟩ : ∃ P, place x = P := ⟨_, rfl⟩
      have HP : Hid (place x = P) := hP
      have hPb : P ≤ 2 * j := by have := place_le x; omega
      have HNP : Hid (num P = x) := by show num P = x; rw [← hP, num_place]
      have hm15 : n - q - 1 < 16 := by omega
      clear hP
      go_wp2_with fail
      go_loopw [7, 11] (fun s a wq => ∃ p s1 : Nat, p ≤ P ∧ a = .int .i64 (num p) ∧ s = .int .u64 s1 ∧ Hid (s1 = s0 + sm (n - q - 1) j p) ∧ Hid (∃ mo', Bk wq b mo' ∧ Gb w wq b mo mo')) (fun _ a _ => P - place (intOf a))
      case atStart => exact ⟨0, s0, by omega, rfl, rfl, rfl, mo1, HB1.out, HG1.out⟩
      case round =>
        obtain ⟨p, s1, hpP, rfl, rfl, HS1, HW⟩ := hrel
        have hs1 : s1 ≤ 4921911787962368 := by
          have := sm_le (n := n - q - 1) (k := j) (p := p) hm15 hj (by omega)
          have := vv_bd (n := n - q - 1 + 1) (k := j) (by omega) hj
          have := HS1.out
          omega
        by_cases hpe : p < P
        · have hne : ¬ num p = x := fun e => by rw [← HNP.out] at e; have := congrArg place e; rw [place_num, place_num] at this; omega
          obtain ⟨mo2, hB2, hG2⟩ := HW.out
          have HG2 : Hid (Gb w wr b mo mo2) := hG2
          obtain ⟨t, ht⟩ : ∃ t, (p + 1) / 2 = t := ⟨_, rfl⟩
          have HT : Hid ((num p).natAbs = t) := by show (num p).natAbs = t; rw [num_abs, ht]
          have htj : t ≤ j := by omega
          have HV : Hid (vI ((n : Int) - (q : Int) - 1) ((j : Int) - (t : Int)) = vv (n - q - 1) (j - t)) := by
            show vI _ _ = _
            rw [show (n : Int) - (q : Int) - 1 = ((n - q - 1 : Nat) : Int) by omega]
            exact vI_sub (by omega) hj htj
          have hvb := vv_bd (n := n - q - 1) (k := j - t) (by omega) (by omega)
          have HSM : Hid (sm (n - q - 1) j (p + 1) = sm (n - q - 1) j p + vv (n - q - 1) (j - t)) := by show sm (n - q - 1) j (p + 1) = _; rw [sm, ht]
          obtain ⟨v, hv⟩ : ∃ v, vv (n - q - 1) (j - t) = v := ⟨_, rfl⟩
          rw [hv] at HV hvb HSM
          have HB2 : Hid (Bk (wr.alloc (.cells #[.int .i64 (num p)] 3)) b mo2) := hB2.alloc _
          clear hv ht HW hB2 hG2
          go_wp2_with fail
          refine (pulses_one wr (num p) 3 t HT.out (by omega)).mono ?_
          rintro e w1 ⟨rfl, hw1⟩
          obtain rfl := hw1.symm
          clear hw1
          go_wp2_with fail
          refine (vb_calls _ b mo2 _ _ HB2).mono ?_
          rw [HV.out]
          rintro e w1 ⟨rfl, mo3, hB3, hG3⟩
          have HX3 : Hid (∃ mo', Bk w1 b mo' ∧ Gb w w1 b mo mo') := ⟨mo3, hB3, (HG2.out.alloc _).trans hG3⟩
          clear hB3 hG3
          go_wp2_with (go_at_call 36; refine (next_any _ p (by omega)).mono ?_; rintro e w2 ⟨rfl, hw1⟩; obtain rfl := hw1.symm; clear hw1)
          go_roundw
          case rel => exact ⟨p + 1, s1 + v, by omega, rfl, by go_num, by show s1 + v = _; rw [HSM.out, HS1.out]; omega, HX3⟩
          case measure => simp [intOf, place_num]; omega
        · obtain rfl : p = P := by omega
          obtain ⟨mo2, hB2, hG2⟩ := HW.out
          have HX3 : Hid (∃ mo', Bk (wr.alloc (.cells #[.int .i64 x] 3)) b mo' ∧ Gb w (wr.alloc (.cells #[.int .i64 x] 3)) b mo mo') := ⟨mo2, hB2.alloc _, hG2.alloc _⟩
          have HJ2 : Hid (pul (r.drop (q + 1)) = j - x.natAbs) := by show _ = _; have := HPD.out; rw [HJ.out] at this; omega
          have HS2 : Hid (s1 + rk (r.drop (q + 1)) (j - x.natAbs) = rk r k) := by
            show _ = _
            have := HS.out
            rw [HSX.out, HP.out, hr.out] at this
            have := HS1.out
            omega
          have hs2 : s1 ≤ 2460955893981184 := by
            have := HS2.out
            have := rk_bd r (by rw [hr.out]; exact hn) k hk hp.out
            omega
          obtain ⟨t, ht⟩ : ∃ t, x.natAbs = t := ⟨_, rfl⟩
          have HT : Hid (x.natAbs = t) := ht
          rw [ht] at HJ2 HS2
          have htj : t ≤ j := by omega
          rw [HNP.out]
          clear ht HW hB2 hG2
          go_wp2_with fail
          refine (pulses_one wr x 3 t HT.out (by omega)).mono ?_
          rintro e w1 ⟨rfl, hw1⟩
          obtain rfl := hw1.symm
          clear hw1
          go_wp2
          go_roundw
          case rel => exact ⟨q + 1, j - t, s1, by omega, by omega, by go_num, by go_num, rfl, hs2, HJ2, HS2, HX3⟩
          case measure => simp [intOf]; omega
    · obtain rfl : q = n := by omega
      have HE : Hid (s0 = rk r k) := by
        show s0 = rk r k
        have := HS.out
        rw [List.drop_of_length_le (by rw [hr.out]; exact Nat.le_refl _), rk] at this
        exact this
      go_wp2
      go_returns
      exact ⟨by rw [← HE.out]; rfl, HW.out⟩

set_option maxHeartbeats 1000000 in
/-- isThere. -/
theorem there_any (w : World) (b : Nat) (mo : Option Nat) (n k : Int) (i : Nat) (hn : Hid ((Lit.int .i64 n).wf = true)) (hk : Hid ((Lit.int .i64 k).wf = true)) (hi : i ≤ 18446744073709551615) (hB : Hid (Bk w b mo)) :
    Calls Try.prog 33 #[.pointer (some ⟨b, 0, none⟩), .int .i64 n, .int .i64 k, .int .u64 i] w fun e w' => e = .returned (.bool (decide (i < vI n k))) ∧ ∃ mo', Bk w' b mo' ∧ Gb w w' b mo mo' := by
  obtain ⟨S, hO, hBk⟩ := hB.out
  have HBk : Hid (BkAt w b mo S) := hBk
  have HO : Hid (Ok S) := hO
  have hvb := vI_bd n k
  obtain ⟨v, hv⟩ : ∃ v, vI n k = v := ⟨_, rfl⟩
  have HV : Hid (vI n k = v) := hv
  rw [hv] at hvb ⊢
  clear hv hBk hO
  cases hs : S n k with
  | true =>
    have HS : Hid (S n k = true) := hs
    clear hs
    go_enter Try.func33, Try.ntmps33
    go_wp2_with fail
    refine (has_any _ b mo S n k hn hk HBk).mono ?_
    rw [HS.out]
    rintro e w1 ⟨rfl, hg1⟩
    have HB1 : Hid (Bk w1 b mo) := hB.out.keep hg1
    have HG1 : Hid (Gb w w1 b mo mo) := Gb.grown hg1 _ _
    clear hg1
    go_wp2_with fail
    refine (vb_calls _ b mo n k HB1).mono ?_
    rw [HV.out]
    rintro e w2 ⟨rfl, mo2, hB2, hG2⟩
    have HX : Hid (∃ mo', Bk w2 b mo' ∧ Gb w w2 b mo mo') := ⟨mo2, hB2, HG1.out.trans hG2⟩
    clear hB2 hG2
    go_wp2
    go_returns
    exact ⟨rfl, HX.out⟩
  | false =>
    have HS : Hid (S n k = false) := hs
    clear hs
    by_cases hlt : i < v
    · have hlt' : (i : Int) < (v : Int) := by omega
      rw [decide_eq_true hlt]
      go_enter Try.func33, Try.ntmps33
      go_wp2_with fail
      refine (has_any _ b mo S n k hn hk HBk).mono ?_
      rw [HS.out]
      rintro e w1 ⟨rfl, hg1⟩
      have HB1 : Hid (Bk w1 b mo) := hB.out.keep hg1
      have HG1 : Hid (w.grownBy w1 none) := hg1
      clear hg1
      go_wp2_with fail
      refine (newb_calls _).mono ?_
      rintro e w2 ⟨b2, rfl, hB2, hb2, hle2⟩
      have HB2 : Hid (Bk w2 b2 none) := hB2
      clear hB2
      go_wp2_with fail
      refine (vb_calls _ b2 none n k HB2).mono ?_
      rw [HV.out]
      rintro e w3 ⟨rfl, mo3, hB3, hG3⟩
      have hg3 : w1.grownBy w3 none := (fun (h : Below w1.heap.size w1 w3) => ⟨h.os, h.tape, h.output, h.size, fun i hi _ => h.block i hi⟩) (below_book hb2 hle2 hG3)
      have HB3 : Hid (Bk w3 b mo) := HB1.out.keep hg3
      have HG3 : Hid (Gb w w3 b mo mo) := Gb.grown (gN_trans HG1.out hg3) _ _
      clear hB3 hG3 hg3 hb2 hle2 HB2 HB1 HG1
      go_wp2_with fail
      refine (vb_calls _ b mo n k HB3).mono ?_
      rw [HV.out]
      rintro e w4 ⟨rfl, mo4, hB4, hG4⟩
      have HX : Hid (∃ mo', Bk w4 b mo' ∧ Gb w w4 b mo mo') := ⟨mo4, hB4, HG3.out.trans hG4⟩
      clear hB4 hG4
      go_wp2
      go_returns
      exact ⟨rfl, HX.out⟩
    · have hlt' : ¬ (i : Int) < (v : Int) := by omega
      rw [decide_eq_false hlt]
      go_enter Try.func33, Try.ntmps33
      go_wp2_with fail
      refine (has_any _ b mo S n k hn hk HBk).mono ?_
      rw [HS.out]
      rintro e w1 ⟨rfl, hg1⟩
      have HB1 : Hid (Bk w1 b mo) := hB.out.keep hg1
      have HG1 : Hid (w.grownBy w1 none) := hg1
      clear hg1
      go_wp2_with fail
      refine (newb_calls _).mono ?_
      rintro e w2 ⟨b2, rfl, hB2, hb2, hle2⟩
      have HB2 : Hid (Bk w2 b2 none) := hB2
      clear hB2
      go_wp2_with fail
      refine (vb_calls _ b2 none n k HB2).mono ?_
      rw [HV.out]
      rintro e w3 ⟨rfl, mo3, hB3, hG3⟩
      have hg3 : w1.grownBy w3 none := (fun (h : Below w1.heap.size w1 w3) => ⟨h.os, h.tape, h.output, h.size, fun i hi _ => h.block i hi⟩) (below_book hb2 hle2 hG3)
      have HB3 : Hid (Bk w3 b mo) := HB1.out.keep hg3
      have HG3 : Hid (Gb w w3 b mo mo) := Gb.grown (gN_trans HG1.out hg3) _ _
      clear hB3 hG3 hg3 hb2 hle2 HB2 HB1 HG1
      go_wp2
      go_returns
      exact ⟨rfl, mo, HB3.out, HG3.out⟩

set_option maxHeartbeats 1000000 in
/-- first. -/
theorem first_any (w : World) (b : Nat) (mo : Option Nat) (z : Int) (m k i : Nat) (hz1 : 1 ≤ z) (hz2 : z ≤ 16) (hz : Hid (z = (m : Int) + 1)) (hk : k ≤ 32) (hi : Hid (i < vv (m + 1) k)) (hB : Hid (Bk w b mo)) :
    Calls Try.prog 34 #[.pointer (some ⟨b, 0, none⟩), .int .i64 z, .int .i64 k, .int .u64 i] w fun e w' => ∃ p j : Nat, e = .returned (.tuple #[.int .i64 (num p), .int .u64 j]) ∧ p ≤ 2 * k ∧ i = sm m k p + j ∧ j < vv m (k - (p + 1) / 2) ∧ ∃ mo', Bk w' b mo' ∧ Gb w w' b mo mo' := by
  have hm : m < 16 := by have := hz.out; omega
  have hib : i ≤ 2460955893981184 := Nat.le_trans (Nat.le_of_lt hi.out) (vv_bd (by omega) hk)
  go_enter Try.func34, Try.ntmps34
  go_wp2_with fail
  go_loopw [3, 10] (fun s a wr => ∃ p j : Nat, j ≤ 2460955893981184 ∧ a = .int .i64 (num p) ∧ s = .int .u64 j ∧ Hid (i = sm m k p + j) ∧ Hid (∃ mo', Bk wr b mo' ∧ Gb w wr b mo mo')) (fun _ a _ => 2 * k + 1 - place (intOf a))
  case atStart => exact ⟨0, i, hib, rfl, rfl, by show i = 0 + i; omega, mo, hB.out, Gb.refl _ _ _⟩
  case round =>
    obtain ⟨p, j, hj, rfl, rfl, HI, HW⟩ := hrel
    have hp : p ≤ 2 * k := first_at hm hk hi.out (by have := HI.out; omega)
    obtain ⟨mo2, hB2, hG2⟩ := HW.out
    have HG2 : Hid (Gb w wr b mo mo2) := hG2
    obtain ⟨t, ht⟩ : ∃ t, (p + 1) / 2 = t := ⟨_, rfl⟩
    have HT : Hid ((num p).natAbs = t) := by show (num p).natAbs = t; rw [num_abs, ht]
    have HT2 : Hid ((p + 1) / 2 = t) := ht
    have htk : t ≤ k := by omega
    have HV : Hid (vI (z - 1) ((k : Int) - (t : Int)) = vv m (k - t)) := by
      show vI _ _ = _
      rw [hz.out, show (m : Int) + 1 - 1 = (m : Int) by omega]
      exact vI_sub (by omega) hk htk
    have hvb := vv_bd (n := m) (k := k - t) (by omega) (by omega)
    have HSM : Hid (sm m k (p + 1) = sm m k p + vv m (k - t)) := by show sm m k (p + 1) = _; rw [sm, ht]
    obtain ⟨v, hv⟩ : ∃ v, vv m (k - t) = v := ⟨_, rfl⟩
    have HVV : Hid (vv m (k - t) = v) := hv
    rw [hv] at HV hvb HSM
    have HB2 : Hid (Bk (wr.alloc (.cells #[.int .i64 (num p)] 3)) b mo2) := hB2.alloc _
    clear hv ht HW hB2 hG2
    by_cases hlt : j < v
    · have hlt' : (j : Int) < (v : Int) := by omega
      go_wp2_with fail
      refine (pulses_one wr (num p) 3 t HT.out (by omega)).mono ?_
      rintro e w1 ⟨rfl, hw1⟩
      obtain rfl := hw1.symm
      clear hw1
      go_wp2_with fail
      refine (vb_calls _ b mo2 _ _ HB2).mono ?_
      rw [HV.out]
      rintro e w1 ⟨rfl, mo3, hB3, hG3⟩
      have HX3 : Hid (∃ mo', Bk w1 b mo' ∧ Gb w w1 b mo mo') := ⟨mo3, hB3, (HG2.out.alloc _).trans hG3⟩
      clear hB3 hG3
      go_wp2
      go_returns
      exact ⟨p, j, rfl, hp, HI.out, by rw [HT2.out, HVV.out]; exact hlt, HX3.out⟩
    · have hlt' : ¬ (j : Int) < (v : Int) := by omega
      go_wp2_with fail
      refine (pulses_one wr (num p) 3 t HT.out (by omega)).mono ?_
      rintro e w1 ⟨rfl, hw1⟩
      obtain rfl := hw1.symm
      clear hw1
      go_wp2_with fail
      refine (vb_calls _ b mo2 _ _ HB2).mono ?_
      rw [HV.out]
      rintro e w1 ⟨rfl, mo3, hB3, hG3⟩
      have HX3 : Hid (∃ mo', Bk w1 b mo' ∧ Gb w w1 b mo mo') := ⟨mo3, hB3, (HG2.out.alloc _).trans hG3⟩
      clear hB3 hG3
      go_wp2_with (go_at_call 36; refine (next_any _ p (by omega)).mono ?_; rintro e w2 ⟨rfl, hw1⟩; obtain rfl := hw1.symm; clear hw1)
      go_roundw
      case rel => exact ⟨p + 1, j - v, by omega, rfl, by go_num, by show i = _; rw [HSM.out]; have := HI.out; omega, HX3⟩
      case measure => simp [intOf, place_num]; omega
end Go.Proofs.Ytejappandbooeaa
