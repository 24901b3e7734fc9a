/-
  What Rank, isThere, first and Unrank of package rank do over a book: a right vector's rank, the vector of a rank that there is; what was needed is noted in the book. Nothing that was there is turned but the book's own block and its map.
-/
import Derived.Test.YtfgpmdikkncckaaDoorRankCalls
namespace Go.Proofs.YtfgpmdikkncckaaDoor
set_option linter.unusedVariables false
open Go.ChangeShapes Go.WideShapes Go.ChangeAt Go.RowKit

/-- A book at b, whatever is noted in it; and what a call on it turns. -/
def Bk (w : World) (b : Nat) (mo : Option Nat) : Prop := ∃ S, Ok S ∧ BkAt w b mo S

theorem Bk.lat {w w' : World} {b : Nat} {mo mo' : Option Nat} {ao : Option Addr} {r : List Int} (hB : Bk w b mo) (hG : Gb w w' b mo mo') (h : LAt w ao r) : LAt w' ao r := by
  obtain ⟨S, _, hB⟩ := hB
  exact h.gb hB hG
theorem Bk.alloc {w : World} {b : Nat} {mo : Option Nat} (h : Bk w b mo) (o : Obj) : Bk (w.alloc o) b mo := by
  obtain ⟨S, h1, h2⟩ := h
  exact ⟨S, h1, h2.alloc o⟩
theorem Bk.lt {w : World} {b : Nat} {mo : Option Nat} (h : Bk w b mo) : b < w.heap.size := by
  obtain ⟨S, h1, h2⟩ := h
  exact h2.lt
theorem Bk.keep {w w' : World} {b : Nat} {mo : Option Nat} (h : Bk w b mo) (hg : w.grownBy w' none) : Bk w' b mo := by
  obtain ⟨S, h1, h2⟩ := h
  exact ⟨S, h1, h2.keep hg⟩
theorem Bk.drewN {w : World} {b : Nat} {mo : Option Nat} (h : Bk w b mo) (d : Nat) : Bk (w.drewN d) b mo := h
theorem vb_calls (w : World) (b : Nat) (mo : Option Nat) (n k : Int) (h : Hid (Bk w b mo)) :
    Calls Tryd.prog 77 #[.pointer (some ⟨b, 0, none⟩), .int .i64 n, .int .i64 k] w fun e w' => e = .returned (.int .u64 (vI n k : Nat)) ∧ ∃ mo', Bk w' b mo' ∧ Gb w w' b mo mo' := by
  obtain ⟨S, hO, hB⟩ := h.out
  refine (v_calls w b mo S n k hB hO).mono ?_
  rintro e w' ⟨rfl, mo', hB', hG'⟩
  exact ⟨rfl, mo', ⟨_, hO.un _ _, hB'⟩, hG'⟩
theorem newb_calls (w : World) : Calls Tryd.prog 22 #[] w fun e w' => ∃ b, e = .returned (.pointer (some ⟨b, 0, none⟩)) ∧ Bk w' b none ∧ Below w.heap.size w w' ∧ w.heap.size ≤ b := by
  refine (new_calls w).mono ?_
  rintro e w' ⟨b, rfl, h1, h2, h3⟩
  exact ⟨b, rfl, ⟨_, Ok.no, h1⟩, h2, h3⟩

theorem rk_drop {r : List Int} {q : Nat} {x : Int} (h : r[q]? = some x) (k : Nat) : rk (r.drop q) k = sm (r.length - q - 1) k (place x) + rk (r.drop (q + 1)) (k - x.natAbs) := by
  have hl := (List.getElem?_eq_some_iff.1 h).1
  rw [drop_at h, rk, List.length_drop]
  rw [show r.length - (q + 1) = r.length - q - 1 by omega]

set_option maxHeartbeats 1000000 in
/-- isThere. -/
theorem there_any (w : World) (b : Nat) (mo : Option Nat) (n k : Int) (i : Nat) (hn : Hid ((Lit.int .i64 n).wf = true)) (hk : Hid ((Lit.int .i64 k).wf = true)) (hi : i ≤ 18446744073709551615) (hB : Hid (Bk w b mo)) :
    Calls Tryd.prog 89 #[.pointer (some ⟨b, 0, none⟩), .int .i64 n, .int .i64 k, .int .u64 i] w fun e w' => e = .returned (.bool (decide (i < vI n k))) ∧ ∃ mo', Bk w' b mo' ∧ Gb w w' b mo mo' := by
  obtain ⟨S, hO, hBk⟩ := hB.out
  have HBk : Hid (BkAt w b mo S) := hBk
  have HO : Hid (Ok S) := hO
  have hvb := vI_bd n k
  obtain ⟨v, hv⟩ : ∃ v, vI n k = v := ⟨_, rfl⟩
  have HV : Hid (vI n k = v) := hv
  rw [hv] at hvb ⊢
  clear hv hBk hO
  cases hs : S n k with
  | true =>
    have HS : Hid (S n k = true) := hs
    clear hs
    go_enter Tryd.func89, Tryd.ntmps89
    go_wp2_with fail
    refine (has_any _ b mo S n k hn hk HBk).mono ?_
    rw [HS.out]
    rintro e w1 ⟨rfl, hg1⟩
    have HB1 : Hid (Bk w1 b mo) := hB.out.keep hg1
    have HG1 : Hid (Gb w w1 b mo mo) := Gb.grown hg1 _ _
    clear hg1
    go_wp2_with fail
    refine (vb_calls _ b mo n k HB1).mono ?_
    rw [HV.out]
    rintro e w2 ⟨rfl, mo2, hB2, hG2⟩
    have HX : Hid (∃ mo', Bk w2 b mo' ∧ Gb w w2 b mo mo') := ⟨mo2, hB2, HG1.out.trans hG2⟩
    clear hB2 hG2
    go_wp2
    go_returns
    exact ⟨rfl, HX.out⟩
  | false =>
    have HS : Hid (S n k = false) := hs
    clear hs
    by_cases hlt : i < v
    · have hlt' : (i : Int) < (v : Int) := by omega
      rw [decide_eq_true hlt]
      go_enter Tryd.func89, Tryd.ntmps89
      go_wp2_with fail
      refine (has_any _ b mo S n k hn hk HBk).mono ?_
      rw [HS.out]
      rintro e w1 ⟨rfl, hg1⟩
      have HB1 : Hid (Bk w1 b mo) := hB.out.keep hg1
      have HG1 : Hid (w.grownBy w1 none) := hg1
      clear hg1
      go_wp2_with fail
      refine (newb_calls _).mono ?_
      rintro e w2 ⟨b2, rfl, hB2, hb2, hle2⟩
      have HB2 : Hid (Bk w2 b2 none) := hB2
      clear hB2
      go_wp2_with fail
      refine (vb_calls _ b2 none n k HB2).mono ?_
      rw [HV.out]
      rintro e w3 ⟨rfl, mo3, hB3, hG3⟩
      have hg3 : w1.grownBy w3 none := (fun (h : Below w1.heap.size w1 w3) => ⟨h.os, h.tape, h.output, h.size, fun i hi _ => h.block i hi⟩) (below_book hb2 hle2 hG3)
      have HB3 : Hid (Bk w3 b mo) := HB1.out.keep hg3
      have HG3 : Hid (Gb w w3 b mo mo) := Gb.grown (gN_trans HG1.out hg3) _ _
      clear hB3 hG3 hg3 hb2 hle2 HB2 HB1 HG1
      go_wp2_with fail
      refine (vb_calls _ b mo n k HB3).mono ?_
      rw [HV.out]
      rintro e w4 ⟨rfl, mo4, hB4, hG4⟩
      have HX : Hid (∃ mo', Bk w4 b mo' ∧ Gb w w4 b mo mo') := ⟨mo4, hB4, HG3.out.trans hG4⟩
      clear hB4 hG4
      go_wp2
      go_returns
      exact ⟨rfl, HX.out⟩
    · have hlt' : ¬ (i : Int) < (v : Int) := by omega
      rw [decide_eq_false hlt]
      go_enter Tryd.func89, Tryd.ntmps89
      go_wp2_with fail
      refine (has_any _ b mo S n k hn hk HBk).mono ?_
      rw [HS.out]
      rintro e w1 ⟨rfl, hg1⟩
      have HB1 : Hid (Bk w1 b mo) := hB.out.keep hg1
      have HG1 : Hid (w.grownBy w1 none) := hg1
      clear hg1
      go_wp2_with fail
      refine (newb_calls _).mono ?_
      rintro e w2 ⟨b2, rfl, hB2, hb2, hle2⟩
      have HB2 : Hid (Bk w2 b2 none) := hB2
      clear hB2
      go_wp2_with fail
      refine (vb_calls _ b2 none n k HB2).mono ?_
      rw [HV.out]
      rintro e w3 ⟨rfl, mo3, hB3, hG3⟩
      have hg3 : w1.grownBy w3 none := (fun (h : Below w1.heap.size w1 w3) => ⟨h.os, h.tape, h.output, h.size, fun i hi _ => h.block i hi⟩) (below_book hb2 hle2 hG3)
      have HB3 : Hid (Bk w3 b mo) := HB1.out.keep hg3
      have HG3 : Hid (Gb w w3 b mo mo) := Gb.grown (gN_trans HG1.out hg3) _ _
      clear hB3 hG3 hg3 hb2 hle2 HB2 HB1 HG1
      go_wp2
      go_returns
      exact ⟨rfl, mo, HB3.out, HG3.out⟩

set_option maxHeartbeats 1000000 in
/-- first. -/
theorem first_any (w : World) (b : Nat) (mo : Option Nat) (z : Int) (m k i : Nat) (hz1 : 1 ≤ z) (hz2 : z ≤ 16) (hz : Hid (z = (m : Int) + 1)) (hk : k ≤ 32) (hi : Hid (i < vv (m + 1) k)) (hB : Hid (Bk w b mo)) :
    Calls Tryd.prog 90 #[.pointer (some ⟨b, 0, none⟩), .int .i64 z, .int .i64 k, .int .u64 i] w fun e w' => ∃ p j : Nat, e = .returned (.tuple #[.int .i64 (num p), .int .u64 j]) ∧ p ≤ 2 * k ∧ i = sm m k p + j ∧ j < vv m (k - (p + 1) / 2) ∧ ∃ mo', Bk w' b mo' ∧ Gb w w' b mo mo' := by
  have hm : m < 16 := by have := hz.out; omega
  have hib : i ≤ 2460955893981184 := Nat.le_trans (Nat.le_of_lt hi.out) (vv_bd (by omega) hk)
  go_enter Tryd.func90, Tryd.ntmps90
  go_wp2_with fail
  go_loopw [3, 10] (fun s a wr => ∃ p j : Nat, j ≤ 2460955893981184 ∧ a = .int .i64 (num p) ∧ s = .int .u64 j ∧ Hid (i = sm m k p + j) ∧ Hid (∃ mo', Bk wr b mo' ∧ Gb w wr b mo mo')) (fun _ a _ => 2 * k + 1 - place (intOf a))
  case atStart => exact ⟨0, i, hib, rfl, rfl, by show i = 0 + i; omega, mo, hB.out, Gb.refl _ _ _⟩
  case round =>
    obtain ⟨p, j, hj, rfl, rfl, HI, HW⟩ := hrel
    have hp : p ≤ 2 * k := first_at hm hk hi.out (by have := HI.out; omega)
    obtain ⟨mo2, hB2, hG2⟩ := HW.out
    have HG2 : Hid (Gb w wr b mo mo2) := hG2
    obtain ⟨t, ht⟩ : ∃ t, (p + 1) / 2 = t := ⟨_, rfl⟩
    have HT : Hid ((num p).natAbs = t) := by show (num p).natAbs = t; rw [num_abs, ht]
    have HT2 : Hid ((p + 1) / 2 = t) := ht
    have htk : t ≤ k := by omega
    have HV : Hid (vI (z - 1) ((k : Int) - (t : Int)) = vv m (k - t)) := by
      show vI _ _ = _
      rw [hz.out, show (m : Int) + 1 - 1 = (m : Int) by omega]
      exact vI_sub (by omega) hk htk
    have hvb := vv_bd (n := m) (k := k - t) (by omega) (by omega)
    have HSM : Hid (sm m k (p + 1) = sm m k p + vv m (k - t)) := by show sm m k (p + 1) = _; rw [sm, ht]
    obtain ⟨v, hv⟩ : ∃ v, vv m (k - t) = v := ⟨_, rfl⟩
    have HVV : Hid (vv m (k - t) = v) := hv
    rw [hv] at HV hvb HSM
    have HB2 : Hid (Bk (wr.alloc (.cells #[.int .i64 (num p)] 3)) b mo2) := hB2.alloc _
    clear hv ht HW hB2 hG2
    by_cases hlt : j < v
    · have hlt' : (j : Int) < (v : Int) := by omega
      go_wp2_with fail
      refine (pulses_one wr (num p) 3 t HT.out (by omega)).mono ?_
      rintro e w1 ⟨rfl, hw1⟩
      obtain rfl := hw1.symm
      clear hw1
      go_wp2_with fail
      refine (vb_calls _ b mo2 _ _ HB2).mono ?_
      rw [HV.out]
      rintro e w1 ⟨rfl, mo3, hB3, hG3⟩
      have HX3 : Hid (∃ mo', Bk w1 b mo' ∧ Gb w w1 b mo mo') := ⟨mo3, hB3, (HG2.out.alloc _).trans hG3⟩
      clear hB3 hG3
      go_wp2
      go_returns
      exact ⟨p, j, rfl, hp, HI.out, by rw [HT2.out, HVV.out]; exact hlt, HX3.out⟩
    · have hlt' : ¬ (j : Int) < (v : Int) := by omega
      go_wp2_with fail
      refine (pulses_one wr (num p) 3 t HT.out (by omega)).mono ?_
      rintro e w1 ⟨rfl, hw1⟩
      obtain rfl := hw1.symm
      clear hw1
      go_wp2_with fail
      refine (vb_calls _ b mo2 _ _ HB2).mono ?_
      rw [HV.out]
      rintro e w1 ⟨rfl, mo3, hB3, hG3⟩
      have HX3 : Hid (∃ mo', Bk w1 b mo' ∧ Gb w w1 b mo mo') := ⟨mo3, hB3, (HG2.out.alloc _).trans hG3⟩
      clear hB3 hG3
      go_wp2_with (go_at_call 96; refine (next_any _ p (by omega)).mono ?_; rintro e w2 ⟨rfl, hw1⟩; obtain rfl := hw1.symm; clear hw1)
      go_roundw
      case rel => exact ⟨p + 1, j - v, by omega, rfl, by go_num, by show i = _; rw [HSM.out]; have := HI.out; omega, HX3⟩
      case measure => simp [intOf, place_num]; omega
end Go.Proofs.YtfgpmdikkncckaaDoor
