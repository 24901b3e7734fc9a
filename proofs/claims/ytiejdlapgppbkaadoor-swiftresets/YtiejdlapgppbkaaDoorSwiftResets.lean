/-
  The law SwiftResets of layer 8 as a walk: it returns true, and nothing that was there has turned.
-/
import Derived.Test.YtiejdlapgppbkaaDoorSwiftAlike
namespace Go.Proofs.YtiejdlapgppbkaaDoor
set_option linter.unusedVariables false
open Go.ChangeShapes Go.WideShapes Go.ChangeAt Go.RowKit

theorem sresets_long (aa : Option Addr) (na ca : Nat) (ab : Option Addr) (nb cb : Nat) (ao : Option Addr) (n cap : Nat) (w : World) (hn : (1300 < na ∨ 200 < n) ∨ 1300 < nb) (hT : Hid (Tz w)) :
    Calls Tryd.prog 5 #[.slice aa na ca, .slice ab nb cb, .slice ao n cap] w fun e w' => e = .returned (.bool true) ∧ Below w.heap.size w w' := by
  by_cases h1 : 1300 < na ∨ 200 < n
  · go_enter Tryd.func5, Tryd.ntmps5
    go_wp2_with (first
      | (go_at_call 8; refine (sawake _ hT).mono ?_; rintro e W0 ⟨rfl, hB0⟩; replace hB0 : Hid (Below w.heap.size w W0) := hB0)
      | (go_at_call 9; refine (slong_yes aa na ca ao n cap _ h1).mono ?_; rintro e W1 ⟨rfl, rfl⟩))
    go_ret
    exact ⟨rfl, hB0.out⟩
  · have h2 : (1300 : Int) < nb := by omega
    have h3 : na ≤ 1300 := by omega
    have h4 : n ≤ 200 := by omega
    clear h1 hn
    go_enter Tryd.func5, Tryd.ntmps5
    go_wp2_with (first
      | (go_at_call 8; refine (sawake _ hT).mono ?_; rintro e W0 ⟨rfl, hB0⟩; replace hB0 : Hid (Below w.heap.size w W0) := hB0)
      | (go_at_call 9; refine (slong_no aa na ca ao n cap _ h3 h4).mono ?_; rintro e W1 ⟨rfl, rfl⟩))
    go_ret
    exact ⟨rfl, hB0.out⟩

set_option maxHeartbeats 8000000 in
set_option maxRecDepth 20000 in
theorem sresets_any (aa : Option Addr) (na ca : Nat) (pa : Nat → Int) (ab : Option Addr) (nb cb : Nat) (p : Nat → Int) (ao : Option Addr) (n cap : Nat) (f : Nat → Opr) (w : World) (ha : na ≤ 1300) (hb : nb ≤ 1300) (hn : n ≤ 200) (hpa : Hid (Bx na pa)) (hia : Hid (IntsAt w aa na .u8 pa)) (hp : Hid (Bx nb p)) (hi : Hid (IntsAt w ab nb .u8 p)) (hf : Hid (OprsAt w ao n f)) (hT : Hid (Tz w)) :
    Calls Tryd.prog 5 #[.slice aa na ca, .slice ab nb cb, .slice ao n cap] w fun e w' => e = .returned (.bool true) ∧ Below w.heap.size w w' := by
  have hn' : (n : Int) ≤ 200 := by omega
  have hb' : ¬ ((1300 : Int) < nb) := by omega
  go_enter Tryd.func5, Tryd.ntmps5
  go_wp2_with (first
    | (go_at_call 8; refine (sawake _ hT).mono ?_; rintro e W0 ⟨rfl, HB0⟩; replace HB0 : Hid (Below w.heap.size w W0) := HB0)
    | (go_at_call 9; refine (slong_no aa na ca ao n cap _ ha hn).mono ?_; rintro e W1 ⟨rfl, rfl⟩)
    | (go_at_call 10; refine (swnew W1 aa na ca pa (by omega) hpa (hT.out.below HB0.out) (hia.out.below HB0.out)).mono ?_; rintro e w1 ⟨bx, rfl, HX, HB1⟩; replace HX : Hid (SwAt w1 W1.heap.size w1.heap.size bx na pa (Re.new pa)) := HX; replace HB1 : Hid (Below W1.heap.size W1 w1) := HB1))
  have HL1 : Hid (w.heap.size ≤ W1.heap.size) := HB0.out.size
  have HBW : Hid (Below w.heap.size w w1) := HB0.out.trans (HB1.out.mono HB0.out.size)
  generalize W1.heap.size = lo at *
  generalize hh1 : w1.heap.size = hi0 at *
  clear HB1 HB0
  go_loopw [27] (fun i wr => ∃ (j : Nat) (m : Re), j ≤ n ∧ i = .int .i64 j ∧ Hid m.Good ∧ m.tk ≤ 3 + 2 * j ∧ m.nb ≤ 16 * j ∧ Hid (SwAt wr lo hi0 bx na pa m) ∧ Hid (Below w.heap.size w wr)) (fun i _ => n - (intOf i).toNat)
  case atStart => exact ⟨0, Re.new pa, by omega, rfl, new_good hpa.out, Nat.le_refl _, Nat.le_refl _, HX, HBW⟩
  case round =>
    obtain ⟨j, m, hj, rfl, HG, n1, n2, HX, HB⟩ := hrel
    by_cases hlt : j < n
    · have hlt' : (j : Int) < n := by omega
      obtain ⟨bo, off, rfl, c0, c1, c2, c3, ho⟩ := (hf.out.below HB.out) j hlt
      generalize f j = o at *
      obtain ⟨k, x, y, t⟩ := o
      simp only at c0 c1 c2 c3
      clear ho
      have t1 : m.tk ≤ 800000 := by omega
      have HLX : Hid (0 < lo ∧ lo ≤ bx ∧ bx < hi0 ∧ bx < wr.heap.size) := HX.out.lt
      have hn2 := takeU_n m pa x y t
      have HG1 : Hid (m.takeU pa x y t).Good := takeU_good hpa.out HG.out x y t
      obtain ⟨m1, hm1⟩ : ∃ m1, m.takeU pa x y t = m1 := ⟨_, rfl⟩
      rw [hm1] at hn2 HG1
      have HM1 : Hid (m.takeU pa x y t = m1) := hm1
      clear hm1
      have t9 : m1.nb ≤ 700000 := by omega
      have HG2 : Hid (m1.raw (rawK y)).Good := rawRe_good HG1.out _
      have HK : Hid ((m1.raw (rawK y)).tk ≤ 3 + 2 * (j + 1) ∧ (m1.raw (rawK y)).nb ≤ 16 * (j + 1)) := by have := rawK_le y; show m1.tk ≤ _ ∧ m1.nb + rawK y ≤ _; omega
      clear hn2
      go_wp2_with (first
        | (go_at_call 16; refine (swraw wa lo hi0 bx na pa m1 y (by omega) t9 hpa HXa).mono ?_; rintro e wz ⟨rfl, HXz, HBz⟩; replace HXz : Hid (SwAt wz lo hi0 bx na pa (m1.raw (rawK y))) := HXz; have HBwz : Hid (Below w.heap.size w wz) := below_grown HBwa.out HBz (by have := HLX.out; have := HL1.out; omega) HBwa.out.size; clear HBz)
        | (go_at_call 14; refine (swtakeU _ lo hi0 bx na pa m x y t (by omega) t1 hpa HG (by exact SwAt.keep (b := bx) HX.out (by repeat (first | (with_reducible exact grown_refl _ none) | (with_reducible refine grown_alloc ?_ _) | (with_reducible refine grown_drew ?_) | (with_reducible refine grown_qN ?_ _))))).mono ?_; rw [HM1.out]; rintro e wa ⟨rfl, HXa, HBa⟩; replace HXa : Hid (SwAt wa lo hi0 bx na pa m1) := HXa; have o2 := row_cell (var_cell HBa (heap_alloc_new _ _) (by have := HLX.out; omega)) 2 rfl; have HBwa : Hid (Below w.heap.size w wa) := below_grown (below_alloc' HB.out _ HB.out.size) HBa (by have := HLX.out; have := HL1.out; omega) (Nat.le_trans HB.out.size (grown_size (grown_alloc (grown_refl wr none) _))); clear HBa))
      go_roundw
      case rel => exact ⟨j + 1, _, by omega, by go_num, HG2, HK.out.1, HK.out.2, HXz, HBwz⟩
      case measure => simp [intOf]; omega
    · have e : j = n := by omega
      subst e
      clear hlt HBW
      have HTr : Hid (Tz wr) := HX.out.tz
      have HRr : Hid (SRaw wr bx) := HX.out.raw
      have HIr : Hid (IntsAt wr ab nb .u8 p) := hi.out.below HB.out
      have HLX0 : Hid (0 < lo ∧ lo ≤ bx ∧ bx < hi0 ∧ bx < wr.heap.size) := HX.out.lt
      have HNE : Hid (∀ ad, 0 < nb → ab = some ad → ad.block ≠ bx) := fun ad h0 e => by
        obtain ⟨c, off, e2, hc⟩ := hi.out 0 h0
        have hlt := block_lt_of_cell hc
        rw [e] at e2
        cases e2
        have := HLX0.out; have := HL1.out
        show c ≠ bx
        have : c < w.heap.size := hlt
        omega
      go_wp2_with (first
        | (go_at_call 27; refine (swreset wr lo bx ab nb cb p (by omega) HLX0.out.2.1 HLX0.out.1 hp HTr HRr HIr HNE).mono ?_; rintro e wR ⟨rfl, HXR, HGR⟩; replace HXR : Hid (SwAt wR lo wR.heap.size bx nb p (Re.new p)) := HXR; have HBR : Hid (Below w.heap.size w wR) := below_grown HB.out HGR (by have := HLX0.out; have := HL1.out; omega) HB.out.size; clear HGR)
        | (go_at_call 10; refine (swnew wR ab nb cb p (by omega) hp HXR.out.tz (hi.out.below HBR.out)).mono ?_; rintro e w3 ⟨by', rfl, HY3, HB3⟩; replace HY3 : Hid (SwAt w3 wR.heap.size w3.heap.size by' nb p (Re.new p)) := HY3; replace HB3 : Hid (Below wR.heap.size wR w3) := HB3))
      have HX3 : Hid (SwAt w3 lo wR.heap.size bx nb p (Re.new p)) := HXR.out.keep (grown_below HB3.out none)
      have HBW3 : Hid (Below w.heap.size w w3) := HBR.out.trans (HB3.out.mono HBR.out.size)
      generalize wR.heap.size = hi1 at *
      generalize hh3 : w3.heap.size = hi2 at *
      clear HX HB HG HTr HRr HIr HLX0 HNE HXR HBR HB3
      go_loopw [51] (fun i wr => ∃ (j' : Nat) (m : Re), j' ≤ j ∧ i = .int .i64 j' ∧ Hid m.Good ∧ m.tk ≤ 3 + 2 * j' ∧ m.nb ≤ 16 * j' ∧ Hid (SwAt wr lo hi1 bx nb p m) ∧ Hid (SwAt wr hi1 hi2 by' nb p m) ∧ Hid (Below w.heap.size w wr)) (fun i _ => j - (intOf i).toNat)
      case atStart => exact ⟨0, Re.new p, by omega, rfl, new_good hp.out, Nat.le_refl _, Nat.le_refl _, HX3, HY3, HBW3⟩
      case round =>
        obtain ⟨j', m, hj', rfl, HG, n1', n2', HX, HY, HB⟩ := hrel
        by_cases hlt : j' < j
        · have hlt' : (j' : Int) < j := by omega
          obtain ⟨bo, off, rfl, c0, c1, c2, c3, ho⟩ := (hf.out.below HB.out) j' hlt
          generalize f j' = o at *
          obtain ⟨k, x, y, t⟩ := o
          simp only at c0 c1 c2 c3
          clear ho
          have HLX : Hid (0 < lo ∧ lo ≤ bx ∧ bx < hi1) := ⟨HX.out.lt.1, HX.out.lt.2.1, HX.out.lt.2.2.1⟩
          have HLY : Hid (hi1 ≤ by' ∧ by' < hi2) := ⟨HY.out.lt.2.1, HY.out.lt.2.2.1⟩
          have HNV : Hid (bx < wr.heap.size ∧ by' < wr.heap.size) := ⟨HX.out.lt.2.2.2, HY.out.lt.2.2.2⟩
          have t9 : m.nb ≤ 700000 := by omega
          have HK1 : Hid ((m.raw (rawK y)).tk ≤ 3 + 2 * j' ∧ (m.raw (rawK y)).nb ≤ 16 * (j' + 1)) := by have := rawK_le y; show m.tk ≤ _ ∧ m.nb + rawK y ≤ _; omega
          have HG1 : Hid (m.raw (rawK y)).Good := rawRe_good HG.out _
          obtain ⟨m1, hm1⟩ : ∃ m1, m.raw (rawK y) = m1 := ⟨_, rfl⟩
          rw [hm1] at HK1 HG1
          have HM1 : Hid (m.raw (rawK y) = m1) := hm1
          clear hm1
          obtain ⟨s, hs⟩ : ∃ s, rsum nb p m.nb (rawK y) = s := ⟨_, rfl⟩
          have HS : Hid (rsum nb p m.nb (rawK y) = s) := hs
          clear hs
          have t1 : m1.tk ≤ 800000 := by have := HK1.out.1; omega
          have hn2 := takeU_n m1 p x y t
          have HG2 : Hid (m1.takeU p x y t).Good := takeU_good hp.out HG1.out x y t
          obtain ⟨m2, hm2⟩ : ∃ m2, m1.takeU p x y t = m2 := ⟨_, rfl⟩
          rw [hm2] at hn2 HG2
          have HM2 : Hid (m1.takeU p x y t = m2) := hm2
          clear hm2
          have HK : Hid (m2.tk ≤ 3 + 2 * (j' + 1) ∧ m2.nb ≤ 16 * (j' + 1)) := by have := HK1.out; show _ ∧ _; omega
          have t2 : m2.tk ≤ 900000 := by have := HK.out; omega
          have t3 : m2.nb ≤ 900000 := by have := HK.out; omega
          obtain ⟨gt, hgt⟩ : ∃ s, m.getU t = s := ⟨_, rfl⟩
          have HGT : Hid (m.getU t = gt) := hgt
          clear hn2 hgt HX3 HY3 HBW3
          go_wp2
          obtain ⟨A, hA⟩ : ∃ A, wr.alloc (.cells #[.int .u8 k, .int .i64 x, .int .i64 y, .int .i64 t] 31) = A := ⟨_, rfl⟩
          have hv : A.heap[wr.heap.size]? = some (.cells #[.int .u8 k, .int .i64 x, .int .i64 y, .int .i64 t] 31 (0, 0)) := by rw [← hA]; exact heap_alloc_new wr _
          have a1 := row_cell hv 1 rfl
          have a2 := row_cell hv 2 rfl
          have a3 := row_cell hv 3 rfl
          have HXA : Hid (SwAt A lo hi1 bx nb p m) := by rw [← hA]; exact SwAt.keep HX.out (grown_alloc (grown_refl _ none) _)
          have HYA : Hid (SwAt A hi1 hi2 by' nb p m) := by rw [← hA]; exact SwAt.keep HY.out (grown_alloc (grown_refl _ none) _)
          have HBA : Hid (Below w.heap.size w A) := by rw [← hA]; exact below_alloc' HB.out _ HB.out.size
          have HVA : Hid (A.heap[wr.heap.size]? = some (.cells #[.int .u8 k, .int .i64 x, .int .i64 y, .int .i64 t] 31 (0, 0))) := hv
          rw [hA]
          clear hv hA HX HY HB c0 c1 c2 c3
          generalize wr.heap.size = bv at *
          clear wr
          go_region_with (first
            | (go_at_call 12; refine (swget _ lo hi1 _ nb p m t HG (by exact SwAt.keep (b := bx) HXA.out (by repeat (first | (with_reducible exact grown_refl _ none) | (with_reducible refine grown_alloc ?_ _) | (with_reducible refine grown_drew ?_) | (with_reducible refine grown_qN ?_ _))))).mono ?_; rw [HGT.out]; rintro e w5 ⟨rfl, rfl⟩)
            | (go_at_call 12; refine (swget _ hi1 hi2 _ nb p m t HG (by exact SwAt.keep (b := by') HYA.out (by repeat (first | (with_reducible exact grown_refl _ none) | (with_reducible refine grown_alloc ?_ _) | (with_reducible refine grown_drew ?_) | (with_reducible refine grown_qN ?_ _))))).mono ?_; rw [HGT.out]; rintro e w5 ⟨rfl, rfl⟩)
            | (go_at_call 16; refine (swraw wa hi1 hi2 by' nb p m y (by omega) t9 hp HYa).mono ?_; rw [HM1.out, HS.out]; rintro e wb ⟨rfl, HYf, HBb⟩; replace HYf : Hid (SwAt wb hi1 hi2 by' nb p m1) := HYf; have HXf : Hid (SwAt wb lo hi1 bx nb p m1) := HXb.out.kept HBb (by intro q e; cases e; have := HLX.out; have := HLY.out; exact ⟨by omega, .inr (by omega)⟩); have hv := var_cell HBb HVa.out (by have := HLX.out; have := HLY.out; have := HNV.out; omega); have d1 := row_cell hv 1 rfl; have d2 := row_cell hv 2 rfl; have d3 := row_cell hv 3 rfl; have HVf : Hid (wb.heap[bv]? = some (.cells #[.int .u8 k, .int .i64 x, .int .i64 y, .int .i64 t] 31 (0, 0))) := hv; have HBf : Hid (Below w.heap.size w wb) := below_grown HBwa.out HBb (by have := HLX.out; have := HLY.out; have := HL1.out; omega) HBwa.out.size; clear HBb hv)
            | (go_at_call 16; refine (swraw wa lo hi1 bx nb p m y (by omega) t9 hp HXa).mono ?_; rw [HM1.out, HS.out]; rintro e wb ⟨rfl, HXf, HBb⟩; replace HXf : Hid (SwAt wb lo hi1 bx nb p m1) := HXf; have HYf : Hid (SwAt wb hi1 hi2 by' nb p m1) := HYb.out.kept HBb (by intro q e; cases e; have := HLX.out; have := HLY.out; exact ⟨by omega, .inl (by omega)⟩); have hv := var_cell HBb HVa.out (by have := HLX.out; have := HLY.out; have := HNV.out; omega); have d1 := row_cell hv 1 rfl; have d2 := row_cell hv 2 rfl; have d3 := row_cell hv 3 rfl; have HVf : Hid (wb.heap[bv]? = some (.cells #[.int .u8 k, .int .i64 x, .int .i64 y, .int .i64 t] 31 (0, 0))) := hv; have HBf : Hid (Below w.heap.size w wb) := below_grown HBwa.out HBb (by have := HLX.out; have := HLY.out; have := HL1.out; omega) HBwa.out.size; clear HBb hv)
            | (go_at_call 16; refine (swraw _ lo hi1 _ nb p m y (by omega) t9 hp (by exact SwAt.keep (b := bx) HXA.out (by repeat (first | (with_reducible exact grown_refl _ none) | (with_reducible refine grown_alloc ?_ _) | (with_reducible refine grown_drew ?_) | (with_reducible refine grown_qN ?_ _))))).mono ?_; rw [HM1.out, HS.out]; rintro e wa ⟨rfl, HXb, HBa⟩; replace HXb : Hid (SwAt wa lo hi1 bx nb p m1) := HXb; have HYa : Hid (SwAt wa hi1 hi2 by' nb p m) := (SwAt.keep (b := by') HYA.out (by repeat (first | (with_reducible exact grown_refl _ none) | (with_reducible refine grown_alloc ?_ _) | (with_reducible refine grown_drew ?_) | (with_reducible refine grown_qN ?_ _)))).kept HBa (by intro q e; cases e; have := HLX.out; have := HLY.out; exact ⟨by omega, .inl (by omega)⟩); have hv := var_cell HBa (var_keep HVA.out (by repeat (first | (with_reducible exact grown_refl _ none) | (with_reducible refine grown_alloc ?_ _) | (with_reducible refine grown_drew ?_) | (with_reducible refine grown_qN ?_ _)))) (by have := HLX.out; have := HLY.out; have := HNV.out; omega); have o2 := row_cell hv 2 rfl; have HVa : Hid (wa.heap[bv]? = some (.cells #[.int .u8 k, .int .i64 x, .int .i64 y, .int .i64 t] 31 (0, 0))) := hv; have HBwa : Hid (Below w.heap.size w wa) := below_grown (by repeat (first | (with_reducible exact HBA.out) | (with_reducible refine Below.drew ?_) | (with_reducible refine below_dN ?_ _))) HBa (by have := HLX.out; have := HLY.out; have := HL1.out; omega) (Nat.le_trans HBA.out.size (grown_size (row := none) (by repeat (first | (with_reducible exact grown_refl _ none) | (with_reducible refine grown_alloc ?_ _) | (with_reducible refine grown_drew ?_) | (with_reducible refine grown_qN ?_ _))))); clear HBa hv)
            | (go_at_call 16; refine (swraw _ hi1 hi2 _ nb p m y (by omega) t9 hp (by exact SwAt.keep (b := by') HYA.out (by repeat (first | (with_reducible exact grown_refl _ none) | (with_reducible refine grown_alloc ?_ _) | (with_reducible refine grown_drew ?_) | (with_reducible refine grown_qN ?_ _))))).mono ?_; rw [HM1.out, HS.out]; rintro e wa ⟨rfl, HYb, HBa⟩; replace HYb : Hid (SwAt wa hi1 hi2 by' nb p m1) := HYb; have HXa : Hid (SwAt wa lo hi1 bx nb p m) := (SwAt.keep (b := bx) HXA.out (by repeat (first | (with_reducible exact grown_refl _ none) | (with_reducible refine grown_alloc ?_ _) | (with_reducible refine grown_drew ?_) | (with_reducible refine grown_qN ?_ _)))).kept HBa (by intro q e; cases e; have := HLX.out; have := HLY.out; exact ⟨by omega, .inr (by omega)⟩); have hv := var_cell HBa (var_keep HVA.out (by repeat (first | (with_reducible exact grown_refl _ none) | (with_reducible refine grown_alloc ?_ _) | (with_reducible refine grown_drew ?_) | (with_reducible refine grown_qN ?_ _)))) (by have := HLX.out; have := HLY.out; have := HNV.out; omega); have o2 := row_cell hv 2 rfl; have HVa : Hid (wa.heap[bv]? = some (.cells #[.int .u8 k, .int .i64 x, .int .i64 y, .int .i64 t] 31 (0, 0))) := hv; have HBwa : Hid (Below w.heap.size w wa) := below_grown (by repeat (first | (with_reducible exact HBA.out) | (with_reducible refine Below.drew ?_) | (with_reducible refine below_dN ?_ _))) HBa (by have := HLX.out; have := HLY.out; have := HL1.out; omega) (Nat.le_trans HBA.out.size (grown_size (row := none) (by repeat (first | (with_reducible exact grown_refl _ none) | (with_reducible refine grown_alloc ?_ _) | (with_reducible refine grown_drew ?_) | (with_reducible refine grown_qN ?_ _))))); clear HBa hv))
          all_goals (
            go_wp2_with (first
              | (go_at_call 14; refine (swtakeU wd hi1 hi2 by' nb p m1 x y t (by omega) t1 hp HG1 HYd).mono ?_; rw [HM2.out]; rintro e we ⟨rfl, HYe, HBe⟩; replace HYe : Hid (SwAt we hi1 hi2 by' nb p m2) := HYe; have HXe : Hid (SwAt we lo hi1 bx nb p m2) := HXd.out.kept HBe (by intro q e; cases e; have := HLX.out; have := HLY.out; exact ⟨by omega, .inr (by omega)⟩); have HBwe : Hid (Below w.heap.size w we) := below_grown HBwd.out HBe (by have := HLX.out; have := HLY.out; have := HL1.out; omega) HBwd.out.size; clear HBe)
              | (go_at_call 14; refine (swtakeU wb lo hi1 bx nb p m1 x y t (by omega) t1 hp HG1 HXf).mono ?_; rw [HM2.out]; rintro e wd ⟨rfl, HXd, HBd⟩; replace HXd : Hid (SwAt wd lo hi1 bx nb p m2) := HXd; have HYd : Hid (SwAt wd hi1 hi2 by' nb p m1) := HYf.out.kept HBd (by intro q e; cases e; have := HLX.out; have := HLY.out; exact ⟨by omega, .inl (by omega)⟩); have hv := var_cell HBd HVf.out (by have := HLX.out; have := HLY.out; have := HNV.out; omega); have f1 := row_cell hv 1 rfl; have f2 := row_cell hv 2 rfl; have f3 := row_cell hv 3 rfl; have HBwd : Hid (Below w.heap.size w wd) := below_grown HBf.out HBd (by have := HLX.out; have := HLY.out; have := HL1.out; omega) HBf.out.size; clear HBd hv)
              | (first | (go_at_call 18; refine (swleft _ lo hi1 _ nb p m2 (by omega) t2 t3 (by exact SwAt.keep (b := bx) HXe.out (by repeat (first | (with_reducible exact grown_refl _ none) | (with_reducible refine grown_alloc ?_ _) | (with_reducible refine grown_drew ?_) | (with_reducible refine grown_qN ?_ _))))).mono ?_; rintro e w5 ⟨rfl, rfl⟩) | (go_at_call 18; refine (swleft _ hi1 hi2 _ nb p m2 (by omega) t2 t3 (by exact SwAt.keep (b := by') HYe.out (by repeat (first | (with_reducible exact grown_refl _ none) | (with_reducible refine grown_alloc ?_ _) | (with_reducible refine grown_drew ?_) | (with_reducible refine grown_qN ?_ _))))).mono ?_; rintro e w5 ⟨rfl, rfl⟩) | (go_at_call 20; refine (swrng _ lo hi1 _ nb p m2 (by exact SwAt.keep (b := bx) HXe.out (by repeat (first | (with_reducible exact grown_refl _ none) | (with_reducible refine grown_alloc ?_ _) | (with_reducible refine grown_drew ?_) | (with_reducible refine grown_qN ?_ _))))).mono ?_; rintro e w5 ⟨rfl, rfl⟩) | (go_at_call 20; refine (swrng _ hi1 hi2 _ nb p m2 (by exact SwAt.keep (b := by') HYe.out (by repeat (first | (with_reducible exact grown_refl _ none) | (with_reducible refine grown_alloc ?_ _) | (with_reducible refine grown_drew ?_) | (with_reducible refine grown_qN ?_ _))))).mono ?_; rintro e w5 ⟨rfl, rfl⟩)))
            go_roundw
            case rel => exact ⟨j' + 1, m2, by omega, by go_num, HG2, HK.out.1, HK.out.2, SwAt.keep HXe.out (by repeat (first | (with_reducible exact grown_refl _ none) | (with_reducible refine grown_alloc ?_ _) | (with_reducible refine grown_drew ?_) | (with_reducible refine grown_qN ?_ _))), SwAt.keep HYe.out (by repeat (first | (with_reducible exact grown_refl _ none) | (with_reducible refine grown_alloc ?_ _) | (with_reducible refine grown_drew ?_) | (with_reducible refine grown_qN ?_ _))), HBwe.out.drew.drew⟩
            case measure => simp [intOf]; omega)
        · have e : j' = j := by omega
          subst e
          clear hlt
          go_wp2
          go_ret
          exact ⟨rfl, HB.out⟩

end Go.Proofs.YtiejdlapgppbkaaDoor
