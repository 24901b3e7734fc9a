/-
  The law WriterFits of layer 6 as a walk: it returns true, and nothing that was there has turned.
-/
import Derived.Test.YtbllenfeleiacaaWriterAgain
namespace Go.Proofs.Ytbllenfeleiacaa
set_option linter.unusedVariables false
open Go.ChangeShapes Go.WideShapes Go.ChangeAt Go.RowKit

theorem below_drewN {B : Nat} {w w' : World} (h : Below B w w') (n : Nat) : Below B w (w'.drewN n) := h.trans ⟨rfl, rfl, rfl, Nat.le_refl _, fun _ _ => rfl⟩
theorem BytesAt.drewN {w : World} {g z : Nat} {p : Nat → Int} (h : BytesAt w g z p) (q : Nat) : BytesAt (w.drewN q) g z p := h

set_option maxRecDepth 20000 in
theorem fits_long (s : Int) (ao : Option Addr) (n cap : Nat) (at' : Int) (w : World) (hn : 200 < n) :
    Calls Try.prog 6 #[.int .u16 s, .slice ao n cap, .int .u8 at'] w fun e w' => e = .returned (.bool true) ∧ Below w.heap.size w w' := by
  have hn' : (200 : Int) < (n : Int) := by omega
  go_enter Try.func6, Try.ntmps6
  go_wp2_with (go_at_call 7; refine (awake_any _).mono ?_; rintro e W0 ⟨rfl, hB0⟩)
  go_ret
  exact ⟨rfl, hB0⟩

/-- The first bytes of two packets of unlike sizes, and the last ones that have raw bits. -/
theorem pk_front {m : Mo} (h : m.Ok) {z k r i : Nat} (hr : m.nR ≤ 8 * r) (hz : z ≤ k) (hi : i + r < z + 0) : m.pk z i = m.pk k i := by
  unfold Mo.pk
  rw [rawB_zero h _ (by omega), rawB_zero h _ (by omega)]
theorem pk_back {m : Mo} (h : m.Ok) {z k r i : Nat} (hr : 8 * r ≤ m.nR + 7) (hl : 0 ≤ m.left z) (hz : z ≤ k) (hi : i < r) (hrz : r ≤ z) : m.pk z (z - r + i) = m.pk k (k - r + i) := by
  unfold Mo.pk
  unfold Mo.left at hl
  rw [h.dz _ (by omega), h.dz _ (by omega), show z - 1 - (z - r + i) = k - 1 - (k - r + i) by omega]

set_option maxRecDepth 20000 in
set_option maxHeartbeats 2000000 in
theorem fits_any (s : Int) (s0 : 0 ≤ s) (s1 : s < 65536) (ao : Option Addr) (n cap : Nat) (f : Nat → Opv) (more : Int) (a0 : 0 ≤ more) (a1 : more ≤ 255) (w : World) (hn : n ≤ 200) (hf : Hid (OpsAt w ao n f)) :
    Calls Try.prog 6 #[.int .u16 s, .slice ao n cap, .int .u8 more] w fun e w' => e = .returned (.bool true) ∧ Below w.heap.size w w' := by
  have hn' : (n : Int) ≤ 200 := by omega
  have e1 : Int.tmod s 1000 = s % 1000 := Int.tmod_eq_emod_of_nonneg s0
  obtain ⟨z, hz⟩ : ∃ z : Nat, 4 + s % 1000 = z := ⟨(4 + s % 1000).toNat, by omega⟩
  obtain ⟨k, hk⟩ : ∃ k : Nat, (z : Int) + more = k := ⟨((z : Int) + more).toNat, by omega⟩
  have z0 : 4 ≤ z := by omega
  have z1 : z ≤ 1275 := by omega
  have k0 : 4 ≤ k := by omega
  have k1 : k ≤ 1275 := by omega
  have zk : z ≤ k := by omega
  go_enter Try.func6, Try.ntmps6
  go_wp2_with (first
    | (go_at_call 7; refine (awake_any _).mono ?_; rintro e W0 ⟨rfl, HB0⟩; replace HB0 : Hid (Below w.heap.size w W0) := HB0)
    | (go_at_call 8; refine (new_any w1 k k0 k1).mono ?_; rintro e w2 ⟨rfl, HW2, HB2⟩; replace HW2 : Hid (WrAt w2 w1.heap.size k Mo.new) := HW2; replace HB2 : Hid (Below w1.heap.size w1 w2) := HB2)
    | (go_at_call 8; refine (new_any W0 z z0 z1).mono ?_; rintro e w1 ⟨rfl, HW1, HB1⟩; replace HW1 : Hid (WrAt w1 W0.heap.size z Mo.new) := HW1; replace HB1 : Hid (Below W0.heap.size W0 w1) := HB1))
  have HS : Hid (w.heap.size ≤ W0.heap.size) := HB0.out.size
  have HAB : Hid (W0.heap.size < w1.heap.size) := HW1.out.lt
  have HVA : Hid (WrAt w2 W0.heap.size z Mo.new) := HW1.out.kept (grown_below HB2.out none) (by simp)
  have HBW : Hid (Below w.heap.size w w2) := (HB0.out.trans (HB1.out.mono HB0.out.size)).trans (HB2.out.mono (Nat.le_trans HB0.out.size HB1.out.size))
  generalize hba : W0.heap.size = ba at *
  generalize hbb : w1.heap.size = bb at *
  have HSA : Hid (w.heap.size ≤ ba) := HS
  clear HS
  go_loopw [13, 60] (fun rr i wr => ∃ (j : Nat) (m : Mo), j ≤ n ∧ i = .int .i64 j ∧ rr = .int .i64 m.nR ∧ Hid m.Good ∧ m.nD ≤ 3 + 2 * j ∧ m.nR ≤ 16 * j ∧ Hid (WrAt wr ba z m) ∧ Hid (WrAt wr bb k m) ∧ Hid (Below w.heap.size w wr)) (fun _ i _ => n - (intOf i).toNat)
  case atStart => exact ⟨0, Mo.new, by omega, rfl, rfl, new_ok, by decide, by decide, HVA.out, HW2.out, HBW.out⟩
  case round =>
    obtain ⟨j, m, hj, rfl, rfl, HG, n1, n2, HW, HV, HB⟩ := hrel
    have hlta := HW.out.lt
    have hltb := HV.out.lt
    by_cases hlt : j < n
    · have hlt' : (j : Int) < n := by omega
      obtain ⟨bo, off, rfl, c0, c1, c2, c3, c4, ho⟩ := (hf.out.below HB.out) j hlt
      generalize f j = o at *
      obtain ⟨kk, x, y, t, u⟩ := o
      simp only at c0 c1 c2 c3 c4
      obtain ⟨kk0, kk1, u0, u1⟩ : 0 ≤ kk ∧ kk ≤ 255 ∧ 0 ≤ u ∧ u < 4294967296 := ⟨ho.k0, ho.k1, ho.x0, ho.x1⟩
      clear ho
      have nm : m.nD ≤ 600000 := by omega
      have nk : m.nR ≤ 600000 := by omega
      have e3 : Int.tmod kk 2 = kk % 2 := Int.tmod_eq_emod_of_nonneg kk0
      have HBA : Hid (Below w.heap.size w (wr.alloc (.cells #[.int .u8 kk, .int .i64 x, .int .i64 y, .int .i64 t, .int .u32 u] 32))) := HB.out.alloc HB.out.size _
      by_cases hk2 : kk % 2 = 0
      · have hn2 := putU_n (m := m) x y t
        have HG2 : Hid (m.putU x y t).Good := putU_good HG.out x y t
        go_wp2_with (first
          | (go_at_call 10; refine (put_un _ bb k m x y t k1 nm nk HG (show WrAt wa bb k m from WrAt.kept (row := some ba) (WrAt.kept (row := none) HV.out (grown_alloc (grown_refl _ none) _) (by simp)) HBa.out (by have := HAB.out; simp; omega))).mono ?_; rintro e wb ⟨rfl, HWb, HBb⟩; have HWc : Hid (WrAt wb ba z (m.putU x y t)) := HWa.out.kept (row := some bb) HBb (by have := HAB.out; simp; omega); have HBw : Hid (Below w.heap.size w wb) := below_grown (below_grown HBA.out HBa.out HSA.out HBA.out.size) HBb (by have := HAB.out; have := HSA.out; omega) (Nat.le_trans HBA.out.size (grown_size HBa.out)); replace HWb : Hid (WrAt wb bb k (m.putU x y t)) := HWb; replace HBb : Hid _ := HBb)
          | (go_at_call 10; refine (put_un _ ba z m x y t z1 nm nk HG (show WrAt _ _ z m from WrAt.kept (row := none) HW.out (by repeat (first | (with_reducible exact grown_refl _ none) | (with_reducible refine grown_alloc ?_ _) | (with_reducible refine grown_drew ?_))) (by simp))).mono ?_; rintro e wa ⟨rfl, HWa, HBa⟩; replace HWa : Hid (WrAt wa ba z (m.putU x y t)) := HWa; have hcs := var_cell HBa (heap_alloc_new _ _) (by omega); have d0 := row_cell hcs 0 rfl; have d1 := row_cell hcs 1 rfl; have d2 := row_cell hcs 2 rfl; have d3 := row_cell hcs 3 rfl; have d4 := row_cell hcs 4 rfl; clear hcs; replace HBa : Hid _ := HBa))
        go_roundw
        case rel => exact ⟨j + 1, m.putU x y t, by omega, by go_num, by rw [hn2.2.2.1], HG2, by omega, by omega, HWc, HWb, HBw⟩
        case measure => simp [intOf]; omega
      · have hn2 := rawU_n (m := m) u y
        have HG2 : Hid (m.rawU u y).Good := rawU_good HG.out u y
        have hcase : (rawE u y = 0 ∧ ((m.rawU u y).nR : Int) = m.nR + y ∧ 0 ≤ y ∧ y ≤ 16) ∨ (rawE u y = 1 ∧ m.rawU u y = m) := by
          unfold rawE Mo.rawU
          by_cases h : 0 ≤ y ∧ y ≤ 16 ∧ u < 2 ^ y.toNat
          · rw [if_pos h, if_pos h]
            have := raw_nR y.toNat u m
            exact .inl ⟨rfl, by omega, h.1, h.2.1⟩
          · rw [if_neg h, if_neg h]; exact .inr ⟨rfl, rfl⟩
        obtain ⟨m2, hm2⟩ : ∃ m2, m.rawU u y = m2 := ⟨_, rfl⟩
        rw [hm2] at hcase hn2 HG2
        have HM2 : Hid _ := hm2
        clear hm2
        have y64 : (m.nR : Int) ≤ 600000 := by omega
        obtain ⟨E, hE⟩ : ∃ E, rawE u y = E := ⟨_, rfl⟩
        rw [hE] at hcase
        have HE : Hid _ := hE
        clear hE
        have hcase2 : (E = 0 ∧ (m2.nR : Int) = m.nR + y ∧ 0 ≤ y ∧ y ≤ 16) ∨ (E = 1 ∧ m2.nR = m.nR) := by
          rcases hcase with h | ⟨h, rfl⟩
          · exact .inl h
          · exact .inr ⟨h, rfl⟩
        clear hcase
        rcases hcase2 with ⟨rfl, hy, y0, y1⟩ | ⟨rfl, hy⟩
        all_goals (go_wp2_with (first
          | (go_at_call 13; refine (raw_un _ ba z m u y z1 nm nk u0 u1 (show WrAt wa ba z m from WrAt.kept (row := some bb) (WrAt.kept (row := none) HW.out (grown_alloc (grown_refl _ none) _) (by simp)) HBa.out (by have := HAB.out; simp; omega))).mono ?_; rw [HE.out, HM2.out]; rintro e wb ⟨rfl, HWb, HBb⟩; have HWc : Hid (WrAt wb bb k m2) := HWa.out.kept (row := some ba) HBb (by have := HAB.out; simp; omega); have HBw : Hid (Below w.heap.size w wb) := below_grown (below_grown HBA.out HBa.out (by have := HAB.out; have := HSA.out; omega) HBA.out.size) HBb HSA.out (Nat.le_trans HBA.out.size (grown_size HBa.out)); have hcs := var_cell HBb HCS.out (by omega); have f2 := row_cell hcs 2 rfl; clear hcs; replace HWb : Hid (WrAt wb ba z m2) := HWb; replace HBb : Hid _ := HBb)
          | (go_at_call 13; refine (raw_un _ bb k m u y k1 nm nk u0 u1 (show WrAt _ _ k m from WrAt.kept (row := none) HV.out (by repeat (first | (with_reducible exact grown_refl _ none) | (with_reducible refine grown_alloc ?_ _) | (with_reducible refine grown_drew ?_))) (by simp))).mono ?_; rw [HE.out, HM2.out]; rintro e wa ⟨rfl, HWa, HBa⟩; replace HWa : Hid (WrAt wa bb k m2) := HWa; have hcs := var_cell HBa (heap_alloc_new _ _) (by omega); have d2 := row_cell hcs 2 rfl; have d4 := row_cell hcs 4 rfl; have HCS : Hid _ := hcs; clear hcs; replace HBa : Hid _ := HBa)))
        all_goals go_roundw
        case rel => exact ⟨j + 1, m2, by omega, by go_num, by rw [hy], HG2, by omega, by omega, HWb, HWc, HBw⟩
        case measure => simp [intOf]; omega
        case rel => exact ⟨j + 1, m2, by omega, by go_num, by rw [hy], HG2, by omega, by omega, HWb, HWc, HBw⟩
        case measure => simp [intOf]; omega
    · have e : j = n := by omega
      subst e
      clear hlt
      have nm : m.nD ≤ 700000 := by omega
      have nk : m.nR ≤ 700000 := by omega
      have h3 := HW.out.ok.n3
      have elk : m.left k = m.left z + 8 * ((k : Int) - z) := by unfold Mo.left; omega
      have lb : -100000 ≤ m.left z ∧ m.left z ≤ 100000 := by unfold Mo.left; omega
      by_cases hl : 0 ≤ m.left z
      · have hlk : 0 ≤ m.left k := by omega
        have et : ((m.nR : Int) + 7).tdiv 8 = ((m.nR : Int) + 7) / 8 := Int.tdiv_eq_ediv_of_nonneg (by omega)
        obtain ⟨r, hr⟩ : ∃ r : Nat, ((m.nR : Int) + 7) / 8 = r := ⟨(m.nR + 7) / 8, by omega⟩
        rw [hr] at et
        have hr1 : m.nR ≤ 8 * r := by omega
        have hr2 : 8 * r ≤ m.nR + 7 := by omega
        have hr3 : r + 3 ≤ z := by have hl2 := hl; unfold Mo.left at hl2; omega
        obtain ⟨zr, hzr⟩ : ∃ zr : Nat, (z : Int) - r = zr := ⟨z - r, by omega⟩
        obtain ⟨kr, hkr⟩ : ∃ kr : Nat, (k : Int) - r = kr := ⟨k - r, by omega⟩
        have HR : Hid (m.nR ≤ 8 * r ∧ 8 * r ≤ m.nR + 7 ∧ r + 3 ≤ z) := ⟨hr1, hr2, hr3⟩
        clear hr
        go_wp2_with (first
          | (go_at_call 18; refine (done_wr w3 bb k m k0 k1 nk hlk (HV.out.kept (grown_below HB3.out none) (by simp))).mono ?_; rintro e w4 ⟨g2, rfl, hg2, HP2, HB4⟩; have HP3 : Hid (BytesAt w4 g1 z (m.pk z)) := (HP1.out.kept (HB4.block g1 HP1.out.lt)); have HWx : Hid (WrAt w4 ba z m) := (HW.out.kept (grown_below HB3.out none) (by simp)).kept (grown_below HB4 none) (by simp); have HVx : Hid (WrAt w4 bb k m) := (HV.out.kept (grown_below HB3.out none) (by simp)).kept (grown_below HB4 none) (by simp); replace HB4 : Hid (Below w3.heap.size w3 w4) := HB4; replace HP2 : Hid (BytesAt w4 g2 k (m.pk k)) := HP2)
          | (go_at_call 18; refine (done_wr wr ba z m z0 z1 nk hl HW).mono ?_; rintro e w3 ⟨g1, rfl, hg1, HP1, HB3⟩; replace HP1 : Hid (BytesAt w3 g1 z (m.pk z)) := HP1; replace HB3 : Hid (Below wr.heap.size wr w3) := HB3)
          | (go_at_call 15; refine (left_wr _ _ z m z1 nm nk (by exact WrAt.kept (b := ba) (z := z) (row := none) HWx.out (by repeat (first | (with_reducible exact grown_refl _ none) | (with_reducible refine grown_alloc ?_ _) | (with_reducible refine grown_drew ?_))) (by simp))).mono ?_; rintro e w5 ⟨rfl, rfl⟩)
          | (go_at_call 15; refine (left_wr _ _ k m k1 nm nk (by exact WrAt.kept (b := bb) (z := k) (row := none) HVx.out (by repeat (first | (with_reducible exact grown_refl _ none) | (with_reducible refine grown_alloc ?_ _) | (with_reducible refine grown_drew ?_))) (by simp))).mono ?_; rintro e w5 ⟨rfl, rfl⟩))
        have t1 : (zr : Int) ≤ z := by omega
        have t2 : (zr : Int) ≤ k := by omega
        have t3 : (kr : Int) ≤ k := by omega
        have t4 : (3 : Int) ≤ zr := by omega
        have t5 : (3 : Int) ≤ kr := by omega
        by_cases hr0 : r = 0
        · subst hr0
          obtain rfl : zr = z := by omega
          obtain rfl : kr = k := by omega
          clear hzr hkr
          have b1 := HP3.out.drewN
          have b2 := HP2.out.drewN
          have ok := HW.out.ok
          have v1 : ∀ q, Sem.run Try.prog (convert 43 9 (.slice (some ⟨g1, 0, none⟩) zr zr)) (w4.drewN q) = .ok (.string (strOf (fun i => m.pk zr (0 + i)) zr)) (w4.drewN q) := fun q => (b1 q).str (o := 0) (k := zr) (cap := zr) (by omega)
          have v2 : ∀ q, Sem.run Try.prog (convert 43 9 (.slice (some ⟨g2, 0, none⟩) zr kr)) (w4.drewN q) = .ok (.string (strOf (fun i => m.pk zr (0 + i)) zr)) (w4.drewN q) := fun q => by
            rw [strOf_congr (z := zr) (p := fun i => m.pk zr (0 + i)) (q := fun i => m.pk kr (0 + i)) (fun i hi => pk_front ok (r := 0) (by omega) zk (by omega))]
            exact (b2 q).str (o := 0) (k := zr) (cap := kr) (by omega)
          have v3 : ∀ q, Sem.run Try.prog (convert 43 9 (.slice (some ⟨g1, 0, none⟩) 0 0)) (w4.drewN q) = .ok (.string (strOf (fun i => 0) 0)) (w4.drewN q) := fun q => (b1 q).str (o := 0) (k := 0) (cap := 0) (by omega)
          have v4 : ∀ q, Sem.run Try.prog (convert 43 9 (.slice (some ⟨g2, 0, none⟩) 0 0)) (w4.drewN q) = .ok (.string (strOf (fun i => 0) 0)) (w4.drewN q) := fun q => (b2 q).str (o := 0) (k := 0) (cap := 0) (by omega)
          clear b1 b2
          go_quiet (fail)
          go_wp2
          go_ret
          have h3 : w.heap.size ≤ w3.heap.size := Nat.le_trans HB.out.size HB3.out.size
          have hfin := (HB.out.trans (HB3.out.mono HB.out.size)).trans (HB4.out.mono h3)
          exact ⟨rfl, below_drewN hfin.drew.drew.drew _⟩
        · have u1 : ¬ (z = zr) := by omega
          have u2 : ¬ (k = kr) := by omega
          have b1 := HP3.out.drewN
          have b2 := HP2.out.drewN
          have ok := HW.out.ok
          have v1 : ∀ q, Sem.run Try.prog (convert 43 9 (.slice (some ⟨g1, 0, none⟩) zr z)) (w4.drewN q) = .ok (.string (strOf (fun i => m.pk z (0 + i)) zr)) (w4.drewN q) := fun q => (b1 q).str (o := 0) (k := zr) (cap := z) (by omega)
          have v2 : ∀ q, Sem.run Try.prog (convert 43 9 (.slice (some ⟨g2, 0, none⟩) zr k)) (w4.drewN q) = .ok (.string (strOf (fun i => m.pk z (0 + i)) zr)) (w4.drewN q) := fun q => by
            rw [strOf_congr (z := zr) (p := fun i => m.pk z (0 + i)) (q := fun i => m.pk k (0 + i)) (fun i hi => pk_front ok (r := r) (by omega) zk (by omega))]
            exact (b2 q).str (o := 0) (k := zr) (cap := k) (by omega)
          have v3 : ∀ q, Sem.run Try.prog (convert 43 9 (.slice (some ⟨g1, zr, none⟩) (z - zr) (z - zr))) (w4.drewN q) = .ok (.string (strOf (fun i => m.pk z (zr + i)) r)) (w4.drewN q) := fun q => by
            rw [show z - zr = r by omega]
            exact (b1 q).str (o := zr) (k := r) (cap := r) (by omega)
          have v4 : ∀ q, Sem.run Try.prog (convert 43 9 (.slice (some ⟨g2, kr, none⟩) (k - kr) (k - kr))) (w4.drewN q) = .ok (.string (strOf (fun i => m.pk z (zr + i)) r)) (w4.drewN q) := fun q => by
            rw [show k - kr = r by omega, strOf_congr (z := r) (p := fun i => m.pk z (zr + i)) (q := fun i => m.pk k (kr + i)) (fun i hi => by
              show m.pk z (zr + i) = m.pk k (kr + i)
              rw [show zr = z - r by omega, show kr = k - r by omega]
              exact pk_back ok (r := r) (by omega) hl zk hi (by omega))]
            exact (b2 q).str (o := kr) (k := r) (cap := r) (by omega)
          clear b1 b2
          go_quiet (fail)
          go_wp2
          go_ret
          have h3 : w.heap.size ≤ w3.heap.size := Nat.le_trans HB.out.size HB3.out.size
          have hfin := (HB.out.trans (HB3.out.mono HB.out.size)).trans (HB4.out.mono h3)
          exact ⟨rfl, below_drewN hfin.drew.drew.drew _⟩
      · have hl' : m.left z < 0 := by omega
        have HL : Hid _ := hl
        clear hl
        by_cases hlk : 0 ≤ m.left k
        · go_wp2_with (first
            | (go_at_call 18; refine (done_wr w3 bb k m k0 k1 nk hlk (HV.out.kept (by rw [E3.out]; exact grown_drew (grown_refl _ none)) (by simp))).mono ?_; rintro e w4 ⟨g2, rfl, hg2, HP2, HB4⟩; have HWx : Hid (WrAt w4 ba z m) := (HW.out.kept (by rw [E3.out]; exact grown_drew (grown_refl _ none)) (by simp)).kept (grown_below HB4 none) (by simp); have HVx : Hid (WrAt w4 bb k m) := (HV.out.kept (by rw [E3.out]; exact grown_drew (grown_refl _ none)) (by simp)).kept (grown_below HB4 none) (by simp); replace HB4 : Hid (Below w3.heap.size w3 w4) := HB4; clear HP2)
            | (go_at_call 18; refine (done_full wr ba z m z1 nm nk hl' HW).mono ?_; rintro e w3 ⟨rfl, E3⟩; replace E3 : Hid (w3 = wr.drew) := E3)
            | (go_at_call 15; refine (left_wr _ _ z m z1 nm nk (by exact WrAt.kept (b := ba) (z := z) (row := none) HWx.out (by repeat (first | (with_reducible exact grown_refl _ none) | (with_reducible refine grown_alloc ?_ _) | (with_reducible refine grown_drew ?_))) (by simp))).mono ?_; rintro e w5 ⟨rfl, rfl⟩)
            | (go_at_call 15; refine (left_wr _ _ k m k1 nm nk (by exact WrAt.kept (b := bb) (z := k) (row := none) HVx.out (by repeat (first | (with_reducible exact grown_refl _ none) | (with_reducible refine grown_alloc ?_ _) | (with_reducible refine grown_drew ?_))) (by simp))).mono ?_; rintro e w5 ⟨rfl, rfl⟩))
          go_ret
          have hB3 : Below w.heap.size w w3 := by rw [E3.out]; exact HB.out.drew
          exact ⟨rfl, (hB3.trans (HB4.out.mono hB3.size)).drew.drew.drew⟩
        · have hlk' : m.left k < 0 := by omega
          have HLK : Hid _ := hlk
          clear hlk
          go_wp2_with (first
            | (go_at_call 18; refine (done_full _ _ z m z1 nm nk hl' (by exact WrAt.kept (b := ba) (z := z) (row := none) HW.out (by repeat (first | (with_reducible exact grown_refl _ none) | (with_reducible refine grown_alloc ?_ _) | (with_reducible refine grown_drew ?_))) (by simp))).mono ?_; rintro e w3 ⟨rfl, rfl⟩)
            | (go_at_call 18; refine (done_full _ _ k m k1 nm nk hlk' (by exact WrAt.kept (b := bb) (z := k) (row := none) HV.out (by repeat (first | (with_reducible exact grown_refl _ none) | (with_reducible refine grown_alloc ?_ _) | (with_reducible refine grown_drew ?_))) (by simp))).mono ?_; rintro e w3 ⟨rfl, rfl⟩)
            | (go_at_call 15; refine (left_wr _ _ z m z1 nm nk (by exact WrAt.kept (b := ba) (z := z) (row := none) HW.out (by repeat (first | (with_reducible exact grown_refl _ none) | (with_reducible refine grown_alloc ?_ _) | (with_reducible refine grown_drew ?_))) (by simp))).mono ?_; rintro e w5 ⟨rfl, rfl⟩)
            | (go_at_call 15; refine (left_wr _ _ k m k1 nm nk (by exact WrAt.kept (b := bb) (z := k) (row := none) HV.out (by repeat (first | (with_reducible exact grown_refl _ none) | (with_reducible refine grown_alloc ?_ _) | (with_reducible refine grown_drew ?_))) (by simp))).mono ?_; rintro e w5 ⟨rfl, rfl⟩))
          go_ret
          exact ⟨rfl, by repeat (first | exact HB.out | refine Below.drew ?_)⟩

end Go.Proofs.Ytbllenfeleiacaa
