/-
  The laws RankTells and RankBack of layer 11 (rank) as walks: called at any input each returns true, and nothing that was there has turned.
-/
import Derived.Test.YtgjbnkkjajljmaaRankUn
import Derived.Test.YtgjbnkkjajljmaaRankRef
import Derived.Test.YtgjbnkkjajljmaaOpen
namespace Go.Proofs.Ytgjbnkkjajljmaa
set_option linter.unusedVariables false
open Go.ChangeShapes Go.WideShapes Go.ChangeAt Go.RowKit

theorem LAt.two (w : World) (x y : Int) (t : TypeId) : LAt (w.alloc (.cells #[.int .i64 x, .int .i64 y] t)) (some ⟨w.heap.size, 0, none⟩) [x, y] := by
  intro i z hz
  match i with
  | 0 => simp at hz; subst hz; exact ⟨_, _, rfl, cell_of_row _ _ 0 _ _ _ (heap_alloc_new _ _)⟩
  | 1 => simp at hz; subst hz; exact ⟨_, _, rfl, cell_of_row _ _ 1 _ _ _ (heap_alloc_new _ _)⟩
  | i + 2 => simp at hz
theorem Gb.drewN' {w w' : World} {b : Nat} {mo mo' : Option Nat} (h : Gb w w' b mo mo') (d : Nat) : Gb w (w'.drewN d) b mo mo' := ⟨h.os, h.tape, h.output, h.size, h.block, h.map⟩
theorem LAt.drewN {w : World} {ao : Option Addr} {r : List Int} (h : LAt w ao r) (d : Nat) : LAt (w.drewN d) ao r := h

set_option maxHeartbeats 1000000 in
theorem awake11 (w : World) : Calls Try.prog 8 #[] w fun e w' => e = .returned (.bool true) ∧ Below w.heap.size w w' := by
  have e7 : Hid (rk [-2, 0] 2 = 7) := by show rk [-2, 0] 2 = 7; decide
  go_enter Try.func8, Try.ntmps8
  go_wp2_with fail
  refine (newb_calls _).mono ?_
  rintro e w1 ⟨b, rfl, hB1, hb1, hle⟩
  have HB1 : Hid (Bk (w1.alloc (.cells #[.int .i64 (-2), .int .i64 0] 3)) b none) := hB1.alloc _
  have HL1 : Hid (LAt (w1.alloc (.cells #[.int .i64 (-2), .int .i64 0] 3)) (some ⟨w1.heap.size, 0, none⟩) [-2, 0]) := LAt.two _ _ _ _
  have HG0 : Hid (Gb w1 (w1.alloc (.cells #[.int .i64 (-2), .int .i64 0] 3)) b none none) := (Gb.refl _ _ _).alloc _
  clear hB1
  go_wp2_with fail
  refine (rank_good _ b none _ 2 2 [-2, 0] (by omega) (by omega) (by omega) rfl 2 (by omega) (by show pul [-2, 0] = 2; rfl) HL1 HB1).mono ?_
  rw [e7.out]
  rintro e w2 ⟨rfl, mo2, hB2, hG2⟩
  have HZ : Hid (Below w.heap.size w w2) := below_book hb1 hle (HG0.out.trans hG2)
  clear hB2 hG2 HB1 HL1 HG0 hb1 hle
  go_wp2_with fail
  refine (newb_calls _).mono ?_
  rintro e w3 ⟨b3, rfl, hB3, hb3, hle3⟩
  have HB3 : Hid (Bk w3 b3 none) := hB3
  clear hB3
  go_wp2_with fail
  refine (unrank_good _ b3 none 2 2 0 (by show 0 < vv 2 2; decide) (by omega) (by omega) HB3).mono ?_
  rintro e w4 ⟨g, r, rfl, hO4, hl4, hp4, hr4, mo4, hB4, hG4⟩
  have er : r = [0, 2] := rk_inj (k := 2) hl4 (by omega) (by omega) hp4 rfl (hr4.trans (by decide))
  subst er
  have c0 : w4.cell? ⟨g, 0, none⟩ = some (.int .i64 0) := hO4.cell rfl
  have c1 : w4.cell? ⟨g, 1, none⟩ = some (.int .i64 2) := hO4.cell rfl
  have HY : Hid (Below w.heap.size w w4) := HZ.out.trans ((below_book hb3 hle3 hG4).mono HZ.out.size)
  clear hO4 hl4 hp4 hr4 hB4 hG4 hb3 hle3 HZ
  go_wp2
  go_returns
  exact ⟨rfl, HY.out⟩

theorem tells_long (ao : Option Addr) (n cap : Nat) (w : World) (hn : 60 < n) : Calls Try.prog 3 #[.slice ao n cap] w fun e w' => e = .returned (.bool true) ∧ Below w.heap.size w w' := by
  have hn' : (60 : Int) < n := by omega
  go_enter Try.func3, Try.ntmps3
  go_wp2_with fail
  refine (awake11 _).mono ?_
  rintro e w0 ⟨rfl, hb0⟩
  go_wp2
  go_returns
  exact ⟨rfl, hb0⟩

set_option maxHeartbeats 1000000 in
theorem tells_wrong (ao : Option Addr) (n cap : Nat) (r : List Int) (w : World) (hn : n ≤ 60) (hc : n ≤ cap) (hc2 : cap ≤ 9223372036854775807) (hr : Hid (r.length = n)) (hw : Hid (WfL r)) (h : Hid (LAt w ao r)) (hbad : Hid (16 < n ∨ ¬ pul r ≤ 32)) :
    Calls Try.prog 3 #[.slice ao n cap] w fun e w' => e = .returned (.bool true) ∧ Below w.heap.size w w' := by
  have hn' : ¬ (60 : Int) < n := by omega
  go_enter Try.func3, Try.ntmps3
  go_wp2_with fail
  refine (awake11 _).mono ?_
  rintro e w0 ⟨rfl, hb0⟩
  have HL0 : Hid (LAt w0 ao r) := h.out.below hb0
  have HZ0 : Hid (Below w.heap.size w w0) := hb0
  clear hb0
  go_wp2_with fail
  refine (newb_calls _).mono ?_
  rintro e w1 ⟨b, rfl, hB1, hb1, hle⟩
  have HL1 : Hid (LAt w1 ao r) := HL0.out.below hb1
  have HZ1 : Hid (Below w.heap.size w w1) := HZ0.out.trans (hb1.mono HZ0.out.size)
  clear hB1 hb1 hle HL0 HZ0
  go_wp2_with fail
  refine (rank_bad _ b ao n cap r hn hc hc2 hr hw HL1 hbad.out).mono ?_
  rintro e w2 ⟨rfl, hw2⟩
  obtain rfl := hw2.symm
  clear hw2
  go_wp2_with fail
  by_cases h16 : 16 < n
  · refine (right_long _ ao n cap h16 hn).mono ?_
    rintro e w2 ⟨rfl, hw2⟩
    obtain rfl := hw2.symm
    clear hw2
    go_wp2
    go_returns
    exact ⟨rfl, HZ1.out⟩
  · refine (right_short _ ao n cap r (by omega) hr hw HL1).mono ?_
    rw [decide_eq_false (by have := hbad.out; omega)]
    rintro e w2 ⟨rfl, hw2⟩
    obtain rfl := hw2.symm
    clear hw2
    go_wp2
    go_returns
    exact ⟨rfl, HZ1.out⟩

set_option maxHeartbeats 1000000 in
theorem tells_right (ao : Option Addr) (n cap : Nat) (r : List Int) (w : World) (hn : n ≤ 16) (hc : n ≤ cap) (hc2 : cap ≤ 9223372036854775807) (hr : Hid (r.length = n)) (hw : Hid (WfL r)) (h : Hid (LAt w ao r)) (k : Nat) (hk : k ≤ 32) (hp : Hid (pul r = k)) :
    Calls Try.prog 3 #[.slice ao n cap] w fun e w' => e = .returned (.bool true) ∧ Below w.heap.size w w' := by
  have hn' : ¬ (60 : Int) < n := by omega
  have hRb := rk_bd r (by rw [hr.out]; exact hn) k hk hp.out
  obtain ⟨R, hR⟩ : ∃ R, rk r k = R := ⟨_, rfl⟩
  have HR : Hid (rk r k = R) := hR
  rw [hR] at hRb
  clear hR
  go_enter Try.func3, Try.ntmps3
  go_wp2_with fail
  refine (awake11 _).mono ?_
  rintro e w0 ⟨rfl, hb0⟩
  have HL0 : Hid (LAt w0 ao r) := h.out.below hb0
  have HZ0 : Hid (Below w.heap.size w w0) := hb0
  clear hb0
  go_wp2_with fail
  refine (newb_calls _).mono ?_
  rintro e w1 ⟨b, rfl, hB1, hb1, hle⟩
  have HL1 : Hid (LAt w1 ao r) := HL0.out.below hb1
  have HB1 : Hid (Bk w1 b none) := hB1
  clear hB1 HL0
  go_wp2_with fail
  refine (rank_good _ b none ao n cap r hn hc hc2 hr k hk hp HL1 HB1).mono ?_
  rw [HR.out]
  rintro e w2 ⟨rfl, mo2, hB2, hG2⟩
  have HL2 : Hid (LAt w2 ao r) := HB1.out.lat hG2 HL1.out
  have HZ2 : Hid (Below w.heap.size w w2) := HZ0.out.trans ((below_book hb1 hle hG2).mono HZ0.out.size)
  clear hB2 hG2 hb1 hle HB1 HL1 HZ0
  go_wp2_with fail
  refine (right_short _ ao n cap r (by omega) hr hw HL2).mono ?_
  rw [decide_eq_true (by rw [hp.out]; exact hk)]
  rintro e w3 ⟨rfl, hw3⟩
  obtain rfl := hw3.symm
  clear hw3
  go_wp2_with fail
  refine (rrank_any n hn _ ao cap r hc hc2 hr k hk hp HL2).mono ?_
  rw [HR.out]
  rintro e w4 ⟨rfl, d, rfl⟩
  have HL4 : Hid (LAt (w2.drewN d) ao r) := HL2.out.drewN d
  go_wp2_with fail
  refine (pulses_right _ ao n cap r hn hc hc2 hr k hp.out (by omega) HL4).mono ?_
  rintro e w5 ⟨rfl, hw5⟩
  obtain rfl := hw5.symm
  clear hw5
  go_wp2_with fail
  refine (rpul_any _ ao n cap r hn hr k hp hk HL4).mono ?_
  rintro e w5 ⟨rfl, hw5⟩
  obtain rfl := hw5.symm
  clear hw5
  go_wp2
  go_returns
  exact ⟨rfl, HZ2.out.os, HZ2.out.tape, HZ2.out.output, HZ2.out.size, HZ2.out.block⟩

theorem WfL.of_wf {n : Nat} {f : Nat → Int} (h : ∀ i, i < n → (Lit.int .i64 (f i)).wf = true) : WfL ((List.range n).map f) := by
  intro i x hx
  have hi : i < n := by have := (List.getElem?_eq_some_iff.1 hx).1; simpa using this
  simp [hi] at hx
  subst hx
  have := bounds_i64 (h i hi)
  omega

theorem tells_law {H : Type} {enc : TypeId × Value → H} {base : Nat} (v : Value) (d : DataW H) (p : List MemPlace) (W : World) (o : Value.okWide Try.prog W .any base 22 v) (k : DataW.Trod enc Try.prog W 0 (fun _ => true) true 22 v d p) :
    Calls Try.prog 3 #[v] W fun e w' => e = .returned (.bool true) ∧ Below W.heap.size W w' := by
  obtain ⟨ao, n, cap, f, rfl, hc, hc2, hL, hW⟩ := open_ints_at Try.underlying22 Try.underlying3 (by kernel_rfl) o k
  have hl : ((List.range n).map f).length = n := by simp
  have hA := LAt.of_ints hL
  have hF := WfL.of_wf hW
  generalize (List.range n).map f = r at hl hA hF
  by_cases h60 : n ≤ 60
  · by_cases hgood : n ≤ 16 ∧ pul r ≤ 32
    · exact tells_right ao n cap r W hgood.1 hc hc2 hl hF hA (pul r) hgood.2 rfl
    · exact tells_wrong ao n cap r W h60 hc hc2 hl hF hA (by show 16 < n ∨ ¬ pul r ≤ 32; omega)
  · exact tells_long ao n cap W (by omega)

set_option maxHeartbeats 1000000 in
theorem back_bad (n k : Int) (i : Nat) (w : World) (hn : Hid ((Lit.int .i64 n).wf = true)) (hk : Hid ((Lit.int .i64 k).wf = true)) (hi : i ≤ 18446744073709551615) (hlt : Hid (¬ i < vI n k)) :
    Calls Try.prog 4 #[.int .i64 n, .int .i64 k, .int .u64 i] w fun e w' => e = .returned (.bool true) ∧ Below w.heap.size w w' := by
  have hvb := vI_bd n k
  obtain ⟨v, hv⟩ : ∃ v, vI n k = v := ⟨_, rfl⟩
  have HV : Hid (vI n k = v) := hv
  have hiv : ¬ (i : Int) < (v : Int) := by have := hlt.out; rw [hv] at this; omega
  rw [hv] at hvb
  clear hv
  go_enter Try.func4, Try.ntmps4
  go_wp2_with fail
  refine (awake11 _).mono ?_
  rintro e w0 ⟨rfl, hb0⟩
  have HZ0 : Hid (Below w.heap.size w w0) := hb0
  clear hb0
  go_wp2_with fail
  refine (newb_calls _).mono ?_
  rintro e w1 ⟨b, rfl, hB1, hb1, hle⟩
  have HB1 : Hid (Bk w1 b none) := hB1
  clear hB1
  go_wp2_with fail
  refine (unrank_bad _ b none n k i hn hk hi HB1 hlt).mono ?_
  rintro e w2 ⟨rfl, mo2, hB2, hG2⟩
  have HZ2 : Hid (Below w.heap.size w w2) := HZ0.out.trans ((below_book hb1 hle hG2).mono HZ0.out.size)
  clear hB2 hG2 hb1 hle HB1 HZ0
  go_wp2_with fail
  refine (rv_any _ n k).mono ?_
  rw [HV.out]
  rintro e w3 ⟨rfl, hw3⟩
  obtain rfl := hw3.symm
  clear hw3
  go_wp2
  go_returns
  exact ⟨rfl, HZ2.out⟩

set_option maxHeartbeats 1000000 in
theorem back_good (n k i : Nat) (w : World) (hn : n ≤ 16) (hk : k ≤ 32) (hi : Hid (i < vv n k)) :
    Calls Try.prog 4 #[.int .i64 n, .int .i64 k, .int .u64 i] w fun e w' => e = .returned (.bool true) ∧ Below w.heap.size w w' := by
  have hvb := vv_bd hn hk
  obtain ⟨v, hv⟩ : ∃ v, vv n k = v := ⟨_, rfl⟩
  have HV : Hid (vI (n : Int) (k : Int) = v) := by show vI _ _ = v; rw [vI_nat hn hk, hv]
  have hiv0 : i < v := by have := hi.out; rw [hv] at this; exact this
  have hiv : (i : Int) < (v : Int) := by omega
  rw [hv] at hvb
  clear hv
  go_enter Try.func4, Try.ntmps4
  go_wp2_with fail
  refine (awake11 _).mono ?_
  rintro e w0 ⟨rfl, hb0⟩
  have HZ0 : Hid (Below w.heap.size w w0) := hb0
  clear hb0
  go_wp2_with fail
  refine (newb_calls _).mono ?_
  rintro e w1 ⟨b, rfl, hB1, hb1, hle⟩
  have HB1 : Hid (Bk w1 b none) := hB1
  clear hB1
  go_wp2_with fail
  refine (unrank_good _ b none n k i hi hn hk HB1).mono ?_
  rintro e w2 ⟨g, r, rfl, hO2, hl2, hp2, hr2, mo2, hB2, hG2⟩
  have HL2 : Hid (LAt w2 (some ⟨g, 0, none⟩) r) := hO2.lat
  have HB2 : Hid (Bk w2 b mo2) := hB2
  have HG2 : Hid (Gb w1 w2 b none mo2) := hG2
  have HLN : Hid (r.length = n) := hl2
  have HP : Hid (pul r = k) := hp2
  have HR : Hid (rk r k = i) := hr2
  clear hO2 hl2 hp2 hr2 hB2 hG2
  go_wp2_with fail
  refine (rv_any _ n k).mono ?_
  rw [HV.out]
  rintro e w3 ⟨rfl, hw3⟩
  obtain rfl := hw3.symm
  clear hw3
  go_wp2_with fail
  refine (rpul_any _ _ n n r hn HLN k HP hk HL2).mono ?_
  rintro e w3 ⟨rfl, hw3⟩
  obtain rfl := hw3.symm
  clear hw3
  go_wp2_with fail
  refine (rrank_any n hn _ _ n r (Nat.le_refl _) (by omega) HLN k hk HP HL2).mono ?_
  rw [HR.out]
  rintro e w3 ⟨rfl, d, rfl⟩
  have HL3 : Hid (LAt (w2.drewN d) (some ⟨g, 0, none⟩) r) := HL2.out.drewN d
  have HB3 : Hid (Bk (w2.drewN d) b mo2) := HB2.out.drewN d
  have HG3 : Hid (Gb w1 (w2.drewN d) b none mo2) := HG2.out.drewN' d
  go_wp2_with fail
  refine (rank_good _ b mo2 _ n n r hn (Nat.le_refl _) (by omega) HLN k hk HP HL3 HB3).mono ?_
  rw [HR.out]
  rintro e w4 ⟨rfl, mo4, hB4, hG4⟩
  have HZ4 : Hid (Below w.heap.size w w4) := HZ0.out.trans ((below_book hb1 hle (HG3.out.trans hG4)).mono HZ0.out.size)
  clear hB4 hG4 hb1 hle
  go_wp2
  go_returns
  exact ⟨rfl, HZ4.out⟩

theorem back_law (n k i : Int) (w : World) (hn : (Lit.int .i64 n).wf = true) (hk : (Lit.int .i64 k).wf = true) (hi : (Lit.int .u64 i).wf = true) :
    Calls Try.prog 4 #[.int .i64 n, .int .i64 k, .int .u64 i] w fun e w' => e = .returned (.bool true) ∧ Below w.heap.size w w' := by
  have hib := bounds_u64 hi
  obtain ⟨j, rfl⟩ : ∃ j : Nat, i = j := ⟨i.toNat, by omega⟩
  by_cases h : j < vI n k
  · have hin := vI_in h
    obtain ⟨a, rfl⟩ : ∃ a : Nat, n = a := ⟨n.toNat, by omega⟩
    obtain ⟨c, rfl⟩ : ∃ c : Nat, k = c := ⟨k.toNat, by omega⟩
    exact back_good a c j w (by omega) (by omega) (by show j < vv a c; rw [← vI_nat (by omega) (by omega)]; exact h)
  · exact back_bad n k j w hn hk (by omega) h
end Go.Proofs.Ytgjbnkkjajljmaa
