/-
  What Unrank of package rank does over a book: the vector of a rank that there is, as a list of the call's own; else nothing. Nothing that was there is turned but the book's own block and its map.
-/
import Derived.Test.YtfgpmdikkncckaaDoorRankBook
import Derived.Deep.OwnRows
namespace Go.Proofs.YtfgpmdikkncckaaDoor
set_option linter.unusedVariables false
open Go.ChangeShapes Go.WideShapes Go.ChangeAt Go.RowKit

section
variable {w w' : World} {B : Nat} {r : List Int}
theorem OwnL.made (w : World) {B : Nat} (hB : B ≤ w.heap.size) (n : Nat) (hn : n ≤ 1000) : OwnL (w.alloc (.cells (madeCells #[.int .i64 0] n) 3)) B (.slice (some ⟨w.heap.size, 0, none⟩) n n) (List.replicate n 0) := by
  unfold OwnL
  rw [List.length_replicate]
  refine ⟨by rw [intL_len, List.length_replicate, Nat.mul_one], .inr ⟨_, n, _, rfl, hB, heap_alloc_new _ _, Nat.le_refl _, by unfold maxLen; omega, by rw [size_madeCells, Nat.mul_one], ?_⟩⟩
  rw [toList_madeCells_one, Nat.mul_one, intL, List.map_replicate, List.take_of_length_le (by simp)]
theorem OwnL.free {g n cap : Nat} (h : OwnL w B (.slice (some ⟨g, 0, none⟩) n cap) r) (j : Nat) : w.frozen? ⟨g, j, none⟩ = false := by
  rcases h.2 with ⟨h0, _⟩ | ⟨g', cap', cur, e, _, hg, _⟩
  · cases h0
  · cases e
    exact frozen_of_row _ _ j _ _ hg
theorem OwnL.set {g n cap : Nat} (h : OwnL w B (.slice (some ⟨g, 0, none⟩) n cap) r) (j : Nat) (x : Int) : OwnL (w.setCell ⟨g, j, none⟩ (.int .i64 x)) B (.slice (some ⟨g, 0, none⟩) n cap) (r.set j x) ∧ w.grownBy (w.setCell ⟨g, j, none⟩ (.int .i64 x)) (some g) := by
  have hn : n = r.length := by
    rcases h.2 with ⟨h0, _⟩ | ⟨g', cap', cur, e, _⟩
    · cases h0
    · cases e; rfl
  subst hn
  have := World.ownsRow.stored h j (.int .i64 x)
  refine ⟨?_, this.2⟩
  unfold OwnL
  rw [List.length_set, intL, List.map_set]
  exact this.1
theorem OwnL.gb {v : Value} {b : Nat} {mo mo' : Option Nat} (h : OwnL w B v r) (hB : Bk w b mo) (hG : Gb w w' b mo mo') (hb : b < B) : OwnL w' B v r := by
  obtain ⟨S, _, hB⟩ := hB
  refine ⟨h.1, ?_⟩
  rcases h.2 with h0 | ⟨g, cap, cur, h1, h2, h3, h4⟩
  · exact .inl h0
  · exact .inr ⟨g, cap, cur, h1, h2, hG.cells hB h3 (by omega), h4⟩
/-- A book is kept while a list of the call's own is written. -/
theorem Bk.row {v : Value} {b : Nat} {mo : Option Nat} (hB : Bk w b mo) (h : OwnL w B v r) (hb : b < B) (hg : w.grownBy w' v.ownBlock) : Bk w' b mo := by
  obtain ⟨S, hO, hB⟩ := hB
  refine ⟨S, hO, ?_⟩
  rcases h.2 with ⟨rfl, _⟩ | ⟨g, cap, cur, rfl, h2, h3, h4⟩
  · exact hB.keep hg
  · have hx := hB.apart h3
    exact hB.kept hg (by simp [Value.ownBlock]; omega) (fun m e => by simp only [Value.ownBlock]; intro e2; exact hx (by rw [← e2, e]))
theorem Gb.row' {w1 w2 : World} {b : Nat} {mo mo' : Option Nat} {row : Option Nat} (h : Gb w w1 b mo mo') (hg : w1.grownBy w2 row) (hr : ∀ g, row = some g → w.heap.size ≤ g) : Gb w w2 b mo mo' :=
  ⟨hg.os.trans h.os, hg.tape.trans h.tape, hg.output.trans h.output, Nat.le_trans h.size hg.size, fun i hi h1 h2 => (hg.block i (Nat.lt_of_lt_of_le hi h.size) (fun e => by have := hr i e.symm; omega)).trans (h.block i hi h1 h2), h.map⟩
end

theorem pulses_one_at (w : World) (g : Nat) (hg : w.heap.size = g) (x : Int) (t : TypeId) (k : Nat) (hp : x.natAbs = k) (hk : k ≤ 1000) : Calls Tryd.prog 91 #[.slice (some ⟨g, 0, none⟩) 1 1] (w.alloc (.cells #[.int .i64 x] t)) fun e w' => e = .returned (.int .i64 k) ∧ w' = w.alloc (.cells #[.int .i64 x] t) := by
  subst hg
  exact pulses_one w x t k hp hk
theorem set_next (pre : List Int) (q n : Nat) (x : Int) (hq : pre.length = q) (hn : q < n) : (pre ++ List.replicate (n - q) 0).set q x = (pre ++ [x]) ++ List.replicate (n - (q + 1)) 0 := by
  subst hq
  obtain ⟨m, hm⟩ : ∃ m, n - pre.length = m + 1 := ⟨n - pre.length - 1, by omega⟩
  rw [List.set_append_right _ _ (Nat.le_refl _), hm, show n - (pre.length + 1) = m by omega, List.replicate_succ]
  simp

theorem unrank_bad (w : World) (b : Nat) (mo : Option Nat) (n k : Int) (i : Nat) (hn : Hid ((Lit.int .i64 n).wf = true)) (hk : Hid ((Lit.int .i64 k).wf = true)) (hi : i ≤ 18446744073709551615) (hB : Hid (Bk w b mo)) (hlt : Hid (¬ i < vI n k)) :
    Calls Tryd.prog 85 #[.pointer (some ⟨b, 0, none⟩), .int .i64 n, .int .i64 k, .int .u64 i] w fun e w' => e = .returned (.tuple #[.slice none 0 0, .int .i64 2]) ∧ ∃ mo', Bk w' b mo' ∧ Gb w w' b mo mo' := by
  go_enter Tryd.func85, Tryd.ntmps85
  go_wp2_with fail
  refine (there_any _ b mo n k i hn hk hi hB).mono ?_
  rw [decide_eq_false hlt.out]
  rintro e w1 ⟨rfl, hX⟩
  have HX : Hid (∃ mo', Bk w1 b mo' ∧ Gb w w1 b mo mo') := hX
  clear hX
  go_wp2
  go_returns
  exact ⟨rfl, HX.out⟩

set_option maxHeartbeats 2000000 in
theorem unrank_good (w : World) (b : Nat) (mo : Option Nat) (n k i : Nat) (hi : Hid (i < vv n k)) (hn : n ≤ 16) (hk : k ≤ 32) (hB : Hid (Bk w b mo)) :
    Calls Tryd.prog 85 #[.pointer (some ⟨b, 0, none⟩), .int .i64 n, .int .i64 k, .int .u64 i] w fun e w' => ∃ (g : Nat) (r : List Int), e = .returned (.tuple #[.slice (some ⟨g, 0, none⟩) n n, .int .i64 0]) ∧ OwnL w' w.heap.size (.slice (some ⟨g, 0, none⟩) n n) r ∧ r.length = n ∧ pul r = k ∧ rk r k = i ∧ ∃ mo', Bk w' b mo' ∧ Gb w w' b mo mo' := by
  have hib : i ≤ 2460955893981184 := Nat.le_trans (Nat.le_of_lt hi.out) (vv_bd hn hk)
  have hbw := hB.out.lt
  have HV : Hid (i < vI (n : Int) (k : Int)) := by show i < vI _ _; rw [vI_nat hn hk]; exact hi.out
  have hmk := run_make_row' (P := Tryd.prog) 106 3 (.int .i64 0) 8 Tryd.underlying106 lint_info rfl .i64 .i64 n (by omega) (by omega)
  go_enter Tryd.func85, Tryd.ntmps85
  go_wp2_with fail
  refine (there_any _ b mo n k i (WalkArith.wf_i64 (by omega)) (WalkArith.wf_i64 (by omega)) (by omega) hB).mono ?_
  rw [decide_eq_true HV.out]
  rintro e w1 ⟨rfl, mo1, hB1, hG1⟩
  have HO1 : Hid (OwnL (w1.alloc (.cells (madeCells #[.int .i64 0] n) 3)) w.heap.size (.slice (some ⟨w1.heap.size, 0, none⟩) n n) (List.replicate n 0)) := OwnL.made w1 hG1.size n (by omega)
  have HX1 : Hid (∃ mo', Bk (w1.alloc (.cells (madeCells #[.int .i64 0] n) 3)) b mo' ∧ Gb w (w1.alloc (.cells (madeCells #[.int .i64 0] n) 3)) b mo mo') := ⟨mo1, hB1.alloc _, hG1.alloc _⟩
  have hs1 : w.heap.size ≤ w1.heap.size := hG1.size
  clear hB1 hG1
  go_wp2_with fail
  obtain ⟨wa, hwa⟩ : ∃ wa, w1.alloc (.cells (madeCells #[.int .i64 0] n) 3) = wa := ⟨_, rfl⟩
  obtain ⟨g, hg⟩ : ∃ g, w1.heap.size = g := ⟨_, rfl⟩
  rw [hwa, hg] at HO1
  rw [hwa] at HX1
  rw [hg] at hs1
  rw [hwa, hg]
  clear hwa hg hmk w1
  go_loopw [2, 3, 22] (fun kk s a wr => ∃ (q j s0 : Nat) (pre : List Int), q ≤ n ∧ j ≤ 32 ∧ s0 ≤ 2460955893981184 ∧ kk = .int .i64 j ∧ s = .int .u64 s0 ∧ a = .int .i64 q ∧ Hid (pre.length = q) ∧ Hid (pul pre + j = k) ∧ Hid (s0 < vv (n - q) j) ∧ Hid (∀ t, t.length = n - q → rk (pre ++ t) k + s0 = i + rk t j) ∧ Hid (OwnL wr w.heap.size (.slice (some ⟨g, 0, none⟩) n n) (pre ++ List.replicate (n - q) 0)) ∧ Hid (∃ mo', Bk wr b mo' ∧ Gb w wr b mo mo')) (fun _ _ a _ => n - (intOf a).toNat)
  case atStart => exact ⟨0, k, i, [], by omega, hk, hib, rfl, rfl, rfl, rfl, by show 0 + k = k; omega, hi, fun t _ => Nat.add_comm _ _, HO1, HX1⟩
  case round =>
    obtain ⟨q, j, s0, pre, hq, hj, hs0, rfl, rfl, rfl, HQ, HK, HS, HR, HO, HX⟩ := hrel
    clear HO1 HX1
    by_cases hlt : q < n
    · have hlt' : (q : Int) < (n : Int) := by omega
      obtain ⟨mo1, hB1, hG1⟩ := HX.out
      have HB1 : Hid (Bk wr b mo1) := hB1
      have HG1 : Hid (Gb w wr b mo mo1) := hG1
      clear hB1 hG1 HX
      have hz1 : (1 : Int) ≤ (n : Int) - (q : Int) := by omega
      go_wp2_with fail
      refine (first_any _ b mo1 ((n : Int) - (q : Int)) (n - q - 1) j s0 hz1 (by omega) (by show (n : Int) - (q : Int) = ((n - q - 1 : Nat) : Int) + 1; omega) hj (by show s0 < vv (n - q - 1 + 1) j; rw [show n - q - 1 + 1 = n - q by omega]; exact HS.out) HB1).mono ?_
      rintro e w2 ⟨p, s1, rfl, hp, hs1', hs2, mo2, hB2, hG2⟩
      have HS1 : Hid (s0 = sm (n - q - 1) j p + s1) := hs1'
      have HS2 : Hid (s1 < vv (n - q - 1) (j - (p + 1) / 2)) := hs2
      have hs1b : s1 ≤ 2460955893981184 := by omega
      have HO2 : Hid (OwnL w2 w.heap.size (.slice (some ⟨g, 0, none⟩) n n) (pre ++ List.replicate (n - q) 0)) := HO.out.gb HB1.out hG2 hbw
      have HB2 : Hid (Bk w2 b mo2) := hB2
      have HG2 : Hid (Gb w w2 b mo mo2) := HG1.out.trans hG2
      have c2 : w2.cell? ⟨g, q, none⟩ = some (.int .i64 0) := HO2.out.cell (by
        rw [List.getElem?_append_right (by rw [HQ.out]; exact Nat.le_refl _), HQ.out, Nat.sub_self, List.getElem?_replicate, if_pos (by omega)])
      have f2 := HO2.out.free q
      clear hs1' hs2 hB2 hG2
      obtain ⟨t, ht⟩ : ∃ t, (p + 1) / 2 = t := ⟨_, rfl⟩
      have HT : Hid ((num p).natAbs = t) := by show (num p).natAbs = t; rw [num_abs, ht]
      have htj : t ≤ j := by omega
      rw [ht] at HS2
      have hset := HO2.out.set q (num p)
      have HO3 : Hid (OwnL ((w2.setCell ⟨g, q, none⟩ (.int .i64 (num p))).alloc (.cells #[.int .i64 (num p)] 3)) w.heap.size (.slice (some ⟨g, 0, none⟩) n n) ((pre ++ [num p]) ++ List.replicate (n - (q + 1)) 0)) := by
        have := hset.1
        rw [set_next pre q n (num p) HQ.out hlt] at this
        exact this.kept (World.grownBy_alloc _ _ none) (by simp [Value.ownBlock])
      have HX3 : Hid (∃ mo', Bk ((w2.setCell ⟨g, q, none⟩ (.int .i64 (num p))).alloc (.cells #[.int .i64 (num p)] 3)) b mo' ∧ Gb w ((w2.setCell ⟨g, q, none⟩ (.int .i64 (num p))).alloc (.cells #[.int .i64 (num p)] 3)) b mo mo') :=
        ⟨mo2, (HB2.out.row HO2.out hbw hset.2).alloc _, (HG2.out.row' hset.2 (fun q e => by cases e; exact hs1)).alloc _⟩
      clear hset ht
      go_wp2_with fail
      refine (pulses_one_at (w2.setCell ⟨g, q, none⟩ (.int .i64 (num p))) w2.heap.size (World.size_setCell _ _ _) (num p) 3 t HT.out (by omega)).mono ?_
      rintro e w3 ⟨rfl, hw3⟩
      obtain rfl := hw3.symm
      clear hw3
      go_wp2
      go_roundw
      case rel =>
        refine ⟨q + 1, j - t, s1, pre ++ [num p], by omega, by omega, hs1b, by go_num, rfl, by go_num, ?_, ?_, ?_, ?_, HO3, HX3⟩
        · show (pre ++ [num p]).length = q + 1
          rw [List.length_append, HQ.out]; rfl
        · show pul (pre ++ [num p]) + (j - t) = k
          rw [pul_app]
          have h1 := HK.out
          have h2 := HT.out
          simp only [pul]
          omega
        · exact HS2
        · intro u hu
          have h1 := HR.out (num p :: u) (by rw [List.length_cons, hu]; omega)
          rw [rk, hu, place_num, HT.out, show n - (q + 1) = n - q - 1 by omega] at h1
          rw [List.append_assoc]
          have h2 := HS1.out
          show rk (pre ++ num p :: u) k + s1 = i + rk u (j - t)
          omega
      case measure => simp [intOf]; omega
    · obtain rfl : q = n := by omega
      have hj0 : j = 0 := by
        have h1 := HS.out
        rw [Nat.sub_self] at h1
        by_cases h2 : j = 0
        · exact h2
        · obtain ⟨m, rfl⟩ : ∃ m, j = m + 1 := ⟨j - 1, by omega⟩
          rw [vv_none (by omega)] at h1
          omega
      subst hj0
      have hs00 : s0 = 0 := by
        have h1 := HS.out
        rw [Nat.sub_self, vv_one (by omega)] at h1
        omega
      subst hs00
      have HO3 : Hid (OwnL wr w.heap.size (.slice (some ⟨g, 0, none⟩) q q) pre) := by
        show OwnL _ _ _ _
        have := HO.out
        rw [Nat.sub_self, List.replicate_zero, List.append_nil] at this
        exact this
      have HR3 : Hid (rk pre k = i) := by
        show rk pre k = i
        have := HR.out [] (by simp)
        rw [List.append_nil, rk] at this
        exact this
      have HP3 : Hid (pul pre = k) := by show pul pre = k; have := HK.out; omega
      go_wp2
      go_returns
      exact ⟨g, pre, rfl, HO3.out, HQ.out, HP3.out, HR3.out, HX.out⟩
end Go.Proofs.YtfgpmdikkncckaaDoor
