/-
  The law SwiftPlays of layer 8 as a walk: it returns true, and nothing that was there has turned.
-/
import Derived.Test.YtiejdlapgppbkaaDoorSwiftLaws
namespace Go.Proofs.YtiejdlapgppbkaaDoor
set_option linter.unusedVariables false
open Go.ChangeShapes Go.WideShapes Go.ChangeAt Go.RowKit

theorem splays_long (ab : Option Addr) (nb cb : Nat) (ao : Option Addr) (n cap : Nat) (w : World) (hn : 1300 < nb ∨ 200 < n) (hT : Hid (Tz w)) :
    Calls Tryd.prog 3 #[.slice ab nb cb, .slice ao n cap] w fun e w' => e = .returned (.bool true) ∧ Below w.heap.size w w' := by
  go_enter Tryd.func3, Tryd.ntmps3
  go_wp2_with (first
    | (go_at_call 8; refine (sawake _ hT).mono ?_; rintro e W0 ⟨rfl, hB0⟩; replace hB0 : Hid (Below w.heap.size w W0) := hB0)
    | (go_at_call 9; refine (slong_yes ab nb cb ao n cap _ hn).mono ?_; rintro e W1 ⟨rfl, rfl⟩))
  go_ret
  exact ⟨rfl, hB0.out⟩

set_option maxHeartbeats 8000000 in
set_option maxRecDepth 20000 in
theorem splays_any (ab : Option Addr) (nb cb : Nat) (p : Nat → Int) (ao : Option Addr) (n cap : Nat) (f : Nat → Opr) (w : World) (hb : nb ≤ 1300) (hn : n ≤ 200) (hp : Hid (Bx nb p)) (hi : Hid (IntsAt w ab nb .u8 p)) (hf : Hid (OprsAt w ao n f)) (hT : Hid (Tz w)) :
    Calls Tryd.prog 3 #[.slice ab nb cb, .slice ao n cap] w fun e w' => e = .returned (.bool true) ∧ Below w.heap.size w w' := by
  have hn' : (n : Int) ≤ 200 := by omega
  have hb' : (nb : Int) ≤ 1300 := by omega
  go_enter Tryd.func3, Tryd.ntmps3
  go_wp2_with (first
    | (go_at_call 8; refine (sawake _ hT).mono ?_; rintro e W0 ⟨rfl, HB0⟩; replace HB0 : Hid (Below w.heap.size w W0) := HB0)
    | (go_at_call 9; refine (slong_no ab nb cb ao n cap _ hb hn).mono ?_; rintro e W1 ⟨rfl, rfl⟩)
    | (go_at_call 10; refine (swnew W1 ab nb cb p (by omega) hp (hT.out.below HB0.out) (hi.out.below HB0.out)).mono ?_; rintro e w1 ⟨bx, rfl, HX, HB1⟩; replace HX : Hid (SwAt w1 W1.heap.size w1.heap.size bx nb p (Re.new p)) := HX; replace HB1 : Hid (Below W1.heap.size W1 w1) := HB1; have HU : Hid (IntsUnder w1 w.heap.size ab nb .u8 p) := (hi.out.under.below HB0.out).below (HB1.out.mono HB0.out.size))
    | (go_at_call 11; refine (rf8new w1 ab nb cb p (by omega) w.heap.size (Nat.le_trans HB0.out.size HB1.out.size) hp HU).mono ?_; rintro e w2 ⟨rfl, HF, HB2⟩; replace HF : Hid (Rf w2 w.heap.size w1.heap.size ab nb cb p (Re.new p)) := HF; replace HB2 : Hid (Below w1.heap.size w1 w2) := HB2))
  have HL1 : Hid (w.heap.size ≤ W1.heap.size) := HB0.out.size
  have HBW : Hid (Below w.heap.size w w2) := (HB0.out.trans (HB1.out.mono HB0.out.size)).trans (HB2.out.mono (Nat.le_trans HB0.out.size HB1.out.size))
  have HXW : Hid (SwAt w2 W1.heap.size w1.heap.size bx nb p (Re.new p)) := HX.out.keep (grown_below HB2.out none)
  have HL2 : Hid (w.heap.size ≤ w1.heap.size) := Nat.le_trans HB0.out.size HB1.out.size
  have HPOS : Hid (0 < W1.heap.size ∧ W1.heap.size ≤ w1.heap.size) := ⟨Nat.lt_of_lt_of_le hT.out.pos HB0.out.size, HB1.out.size⟩
  generalize W1.heap.size = lo at *
  generalize hh1 : w1.heap.size = bf at *
  clear HX HB1 HB0 HB2 HU
  go_loopw [21] (fun i wr => ∃ (j : Nat) (m : Re), j ≤ n ∧ i = .int .i64 j ∧ Hid m.Good ∧ m.tk ≤ 3 + 2 * j ∧ m.nb ≤ 16 * j ∧ Hid (SwAt wr lo bf bx nb p m) ∧ Hid (Rf wr w.heap.size bf ab nb cb p m) ∧ Hid (Below w.heap.size w wr)) (fun i _ => n - (intOf i).toNat)
  case atStart => exact ⟨0, Re.new p, by omega, rfl, new_good hp.out, Nat.le_refl _, Nat.le_refl _, HXW, HF, HBW⟩
  case round =>
    obtain ⟨j, m, hj, rfl, HG, n1, n2, HX, HF, HB⟩ := hrel
    by_cases hlt : j < n
    · have hlt' : (j : Int) < n := by omega
      obtain ⟨bo, off, rfl, c0, c1, c2, c3, ho⟩ := (hf.out.below HB.out) j hlt
      generalize f j = o at *
      obtain ⟨k, x, y, t⟩ := o
      simp only at c0 c1 c2 c3
      have k0 : 0 ≤ k := ho.k0
      have k255 : k ≤ 255 := ho.k1
      clear ho
      have HLX0 := HX.out.lt.2
      have HLF0 := HF.out.lt
      have HLX : Hid (lo ≤ bx ∧ bx < bf ∧ bx < wr.heap.size) := HLX0
      have HLF : Hid (bf < wr.heap.size) := HLF0
      clear HLX0 HLF0
      have e3 : Int.tmod k 3 = k % 3 := Int.tmod_eq_emod_of_nonneg k0
      have t1 : m.tk ≤ 800000 := by omega
      have t9 : m.nb ≤ 700000 := by omega
      obtain hk | hk | hk : k % 3 = 0 ∨ k % 3 = 1 ∨ k % 3 = 2 := by omega
      · have hg := getU_bd HG.out y
        have HE : Hid (∀ q, m.getU y = q → 0 ≤ q ∧ q ≤ 4095) := fun q e => by rw [← e]; exact hg
        clear hg
        obtain ⟨s, hs⟩ : ∃ s, m.getU y = s := ⟨_, rfl⟩
        obtain ⟨s0, s1⟩ := HE.out s hs
        have HS : Hid (m.getU y = s) := hs
        clear hs HE
        have hn2 := takeU_n m p s (s + 1) y
        have HG2 : Hid (m.takeU p s (s + 1) y).Good := takeU_good hp.out HG.out s (s + 1) y
        obtain ⟨m2, hm2⟩ : ∃ m2, m.takeU p s (s + 1) y = m2 := ⟨_, rfl⟩
        rw [hm2] at hn2 HG2
        have HM2 : Hid (m.takeU p s (s + 1) y = m2) := hm2
        clear hm2
        have t2 : m2.tk ≤ 900000 := by omega
        have t3 : m2.nb ≤ 900000 := by omega
        have HK : Hid (m2.tk ≤ 3 + 2 * (j + 1) ∧ m2.nb ≤ 16 * (j + 1)) := by show _ ∧ _; omega
        clear hn2
        go_wp2_with (first
          | (go_at_call 12; refine (swget _ lo bf bx nb p m y HG (SwAt.keep (b := bx) HX.out (by repeat (first | (with_reducible exact grown_refl _ none) | (with_reducible refine grown_alloc ?_ _) | (with_reducible refine grown_drew ?_))))).mono ?_; rw [HS.out]; rintro e w5 ⟨rfl, rfl⟩)
          | (go_at_call 13; refine (rfget _ w.heap.size bf ab nb cb p m y HG (Rf.keep HF.out (by repeat (first | (with_reducible exact grown_refl _ none) | (with_reducible refine grown_alloc ?_ _) | (with_reducible refine grown_drew ?_))))).mono ?_; rw [HS.out]; rintro e w5 ⟨rfl, nq0, E5⟩; have g5 : (wr.alloc (.cells #[.int .u8 k, .int .i64 x, .int .i64 y, .int .i64 t] 31)).grownBy w5 none := (by rw [E5]; exact grown_dN _ _); have HX5 : Hid (SwAt w5 lo bf bx nb p m) := (SwAt.keep (b := bx) HX.out (by repeat (first | (with_reducible exact grown_refl _ none) | (with_reducible refine grown_alloc ?_ _) | (with_reducible refine grown_drew ?_)))).keep g5; have HF5 : Hid (Rf w5 w.heap.size bf ab nb cb p m) := (Rf.keep HF.out (by repeat (first | (with_reducible exact grown_refl _ none) | (with_reducible refine grown_alloc ?_ _) | (with_reducible refine grown_drew ?_)))).keep g5; have h5 : w5.heap[wr.heap.size]? = some (.cells #[.int .u8 k, .int .i64 x, .int .i64 y, .int .i64 t] 31 (0, 0)) := (by rw [E5]; exact heap_alloc_new wr _); have o5 := row_cell h5 2 rfl; have H5 : Hid _ := h5; have HB5 : Hid (Below w.heap.size w w5) := (by rw [E5]; exact below_dN (below_alloc' HB.out _ HB.out.size) _); clear h5 g5 E5)
          | (go_at_call 14; refine (swtakeU w5 lo bf bx nb p m s (s + 1) y (by omega) t1 hp HG HX5).mono ?_; rw [HM2.out]; rintro e wa ⟨rfl, HXa, HBa⟩; replace HXa : Hid (SwAt wa lo bf bx nb p m2) := HXa; have HFa : Hid (Rf wa w.heap.size bf ab nb cb p m) := HF5.out.kept HBa (by intro q e; cases e; have := HLX.out; have := HL1.out; omega); have o3 := row_cell (var_cell HBa H5.out (by have := HLX.out; omega)) 2 rfl; have HBwa : Hid (Below w.heap.size w wa) := below_grown HB5.out HBa (Nat.le_trans HL1.out HLX.out.1) HB5.out.size; clear HBa)
          | (go_at_call 15; refine (rftakeU wa w.heap.size bf ab nb cb p m s (s + 1) y (by omega) t1 hp HG HFa).mono ?_; rw [HM2.out]; rintro e wz ⟨rfl, HFz, HBz⟩; replace HFz : Hid (Rf wz w.heap.size bf ab nb cb p m2) := HFz; have HXz : Hid (SwAt wz lo bf bx nb p m2) := HXa.out.kept HBz (by intro q e; cases e; have := HPOS.out; exact ⟨by omega, .inr (Nat.le_refl _)⟩); have HBwz : Hid (Below w.heap.size w wz) := below_grown HBwa.out HBz HL2.out HBwa.out.size; clear HBz))
        have cx := HFz.out.c3
        have r1 := HG2.out.r1
        have r2 := HG2.out.r2
        have wz1 := wrap_i64 (x := m2.rng) (by omega) (by omega)
        go_quiet (first
          | (go_at_call 18; refine (swleft _ lo bf bx nb p m2 (by omega) t2 t3 (SwAt.keep HXz.out (grown_dN _ _))).mono ?_; rintro e w5 ⟨rfl, rfl⟩; exact ⟨rfl, drew1_ex _ _⟩)
          | (go_at_call 19; refine (rfleft _ w.heap.size bf ab nb cb p m2 (by omega) t2 t3 (Rf.keep HFz.out (grown_dN _ _))).mono ?_; rintro e w5 ⟨rfl, rfl⟩; exact ⟨rfl, drew1_ex _ _⟩)
          | (go_at_call 20; refine (swrng _ lo bf bx nb p m2 (SwAt.keep HXz.out (grown_dN _ _))).mono ?_; rintro e w5 ⟨rfl, rfl⟩; exact ⟨rfl, _, rfl⟩)
          | (go_at_call 12; refine (swget _ lo bf bx nb p m2 4096 HG2 (SwAt.keep HXz.out (grown_dN _ _))).mono ?_; rintro e w5 ⟨rfl, rfl⟩; exact ⟨rfl, _, rfl⟩)
          | (go_at_call 13; refine (rfget _ w.heap.size bf ab nb cb p m2 4096 HG2 (Rf.keep HFz.out (grown_dN _ _))).mono ?_; rintro e w5 ⟨rfl, q5, rfl⟩; exact ⟨rfl, drewN_ex _ _ _⟩))
        go_wp2
        go_roundw
        case rel => exact ⟨j + 1, m2, by omega, by go_num, HG2, HK.out.1, HK.out.2, SwAt.keep HXz.out (grown_dN _ _), Rf.keep HFz.out (grown_dN _ _), below_dN HBwz.out _⟩
        case measure => simp [intOf]; omega
      · have hk1 : (k % 3 == 0) = false := by simp; omega
        have hn2 := takeU_n m p x y t
        have HG2 : Hid (m.takeU p x y t).Good := takeU_good hp.out HG.out x y t
        obtain ⟨m2, hm2⟩ : ∃ m2, m.takeU p x y t = m2 := ⟨_, rfl⟩
        rw [hm2] at hn2 HG2
        have HM2 : Hid (m.takeU p x y t = m2) := hm2
        clear hm2
        have t2 : m2.tk ≤ 900000 := by omega
        have t3 : m2.nb ≤ 900000 := by omega
        have HK : Hid (m2.tk ≤ 3 + 2 * (j + 1) ∧ m2.nb ≤ 16 * (j + 1)) := by show _ ∧ _; omega
        clear hn2
        go_wp2_with (first
          | (go_at_call 14; refine (swtakeU _ lo bf bx nb p m x y t (by omega) t1 hp HG (SwAt.keep (b := bx) HX.out (by repeat (first | (with_reducible exact grown_refl _ none) | (with_reducible refine grown_alloc ?_ _) | (with_reducible refine grown_drew ?_))))).mono ?_; rw [HM2.out]; rintro e wa ⟨rfl, HXa, HBa⟩; replace HXa : Hid (SwAt wa lo bf bx nb p m2) := HXa; have HFa : Hid (Rf wa w.heap.size bf ab nb cb p m) := (Rf.keep HF.out (by repeat (first | (with_reducible exact grown_refl _ none) | (with_reducible refine grown_alloc ?_ _) | (with_reducible refine grown_drew ?_)))).kept HBa (by intro q e; cases e; have := HLX.out; have := HL1.out; omega); have oo := var_cell HBa (heap_alloc_new _ _) (by have := HLX.out; omega); have o1 := row_cell oo 1 rfl; have o2 := row_cell oo 2 rfl; have o3 := row_cell oo 3 rfl; clear oo; have HBwa : Hid (Below w.heap.size w wa) := below_grown (below_alloc' HB.out _ HB.out.size) HBa (Nat.le_trans HL1.out HLX.out.1) (Nat.le_trans HB.out.size (grown_size (grown_alloc (grown_refl wr none) _))); clear HBa)
          | (go_at_call 15; refine (rftakeU wa w.heap.size bf ab nb cb p m x y t (by omega) t1 hp HG HFa).mono ?_; rw [HM2.out]; rintro e wz ⟨rfl, HFz, HBz⟩; replace HFz : Hid (Rf wz w.heap.size bf ab nb cb p m2) := HFz; have HXz : Hid (SwAt wz lo bf bx nb p m2) := HXa.out.kept HBz (by intro q e; cases e; have := HPOS.out; exact ⟨by omega, .inr (Nat.le_refl _)⟩); have HBwz : Hid (Below w.heap.size w wz) := below_grown HBwa.out HBz HL2.out HBwa.out.size; clear HBz))
        have cx := HFz.out.c3
        have r1 := HG2.out.r1
        have r2 := HG2.out.r2
        have wz1 := wrap_i64 (x := m2.rng) (by omega) (by omega)
        go_quiet (first
          | (go_at_call 18; refine (swleft _ lo bf bx nb p m2 (by omega) t2 t3 (SwAt.keep HXz.out (grown_dN _ _))).mono ?_; rintro e w5 ⟨rfl, rfl⟩; exact ⟨rfl, drew1_ex _ _⟩)
          | (go_at_call 19; refine (rfleft _ w.heap.size bf ab nb cb p m2 (by omega) t2 t3 (Rf.keep HFz.out (grown_dN _ _))).mono ?_; rintro e w5 ⟨rfl, rfl⟩; exact ⟨rfl, drew1_ex _ _⟩)
          | (go_at_call 20; refine (swrng _ lo bf bx nb p m2 (SwAt.keep HXz.out (grown_dN _ _))).mono ?_; rintro e w5 ⟨rfl, rfl⟩; exact ⟨rfl, _, rfl⟩)
          | (go_at_call 12; refine (swget _ lo bf bx nb p m2 4096 HG2 (SwAt.keep HXz.out (grown_dN _ _))).mono ?_; rintro e w5 ⟨rfl, rfl⟩; exact ⟨rfl, _, rfl⟩)
          | (go_at_call 13; refine (rfget _ w.heap.size bf ab nb cb p m2 4096 HG2 (Rf.keep HFz.out (grown_dN _ _))).mono ?_; rintro e w5 ⟨rfl, q5, rfl⟩; exact ⟨rfl, drewN_ex _ _ _⟩))
        go_wp2
        go_roundw
        case rel => exact ⟨j + 1, m2, by omega, by go_num, HG2, HK.out.1, HK.out.2, SwAt.keep HXz.out (grown_dN _ _), Rf.keep HFz.out (grown_dN _ _), below_dN HBwz.out _⟩
        case measure => simp [intOf]; omega
      · have hk1 : (k % 3 == 0) = false := by simp; omega
        have hk2 : (k % 3 == 1) = false := by simp; omega
        have hrk := rawK_le y
        have hn2 : m.tk ≤ (m.raw (rawK y)).tk ∧ (m.raw (rawK y)).tk ≤ m.tk + 2 ∧ (m.raw (rawK y)).nb ≤ m.nb + 16 := ⟨Nat.le_refl _, Nat.le_add_right _ _, by show m.nb + rawK y ≤ _; omega⟩
        have HG2 : Hid (m.raw (rawK y)).Good := rawRe_good HG.out _
        obtain ⟨m2, hm2⟩ : ∃ m2, m.raw (rawK y) = m2 := ⟨_, rfl⟩
        rw [hm2] at hn2 HG2
        have HM2 : Hid (m.raw (rawK y) = m2) := hm2
        clear hm2
        have t2 : m2.tk ≤ 900000 := by omega
        have t3 : m2.nb ≤ 900000 := by omega
        have HK : Hid (m2.tk ≤ 3 + 2 * (j + 1) ∧ m2.nb ≤ 16 * (j + 1)) := by show _ ∧ _; omega
        clear hn2
        have hsb := rsum_bd nb p m.nb (rawK y)
        have hp16 := pow16 hrk
        obtain ⟨sx, hsx⟩ : ∃ sx, rsum nb p m.nb (rawK y) = sx := ⟨_, rfl⟩
        rw [hsx] at hsb
        have HS : Hid (rsum nb p m.nb (rawK y) = sx) := hsx
        clear hsx
        have sx0 : 0 ≤ sx := hsb.1
        have sx1 : sx < 65536 := by omega
        have sx2 := wrap_i64 (x := sx) (by omega) (by omega)
        clear hsb hp16 hrk
        go_wp2
        go_region_with (first
          | (go_at_call 17; refine (rfraw wa w.heap.size bf ab nb cb p m y (by omega) t9 hp HFa).mono ?_; rw [HM2.out, HS.out]; rintro e wz ⟨rfl, HFz, HBz⟩; replace HFz : Hid (Rf wz w.heap.size bf ab nb cb p m2) := HFz; have HXz : Hid (SwAt wz lo bf bx nb p m2) := HXb.out.kept HBz (by intro q e; cases e; have := HPOS.out; exact ⟨by omega, .inr (Nat.le_refl _)⟩); have HBwz : Hid (Below w.heap.size w wz) := below_grown HBwa.out HBz HL2.out HBwa.out.size; clear HBz)
          | (go_at_call 16; refine (swraw wa lo bf bx nb p m y (by omega) t9 hp HXa).mono ?_; rw [HM2.out, HS.out]; rintro e wz ⟨rfl, HXz, HBz⟩; replace HXz : Hid (SwAt wz lo bf bx nb p m2) := HXz; have HFz : Hid (Rf wz w.heap.size bf ab nb cb p m2) := HFb.out.kept HBz (by intro q e; cases e; have := HLX.out; have := HL1.out; omega); have HBwz : Hid (Below w.heap.size w wz) := below_grown HBwa.out HBz (Nat.le_trans HL1.out HLX.out.1) HBwa.out.size; clear HBz)
          | (go_at_call 16; refine (swraw _ lo bf bx nb p m y (by omega) t9 hp (by exact SwAt.keep (b := bx) HX.out (by repeat (first | (with_reducible exact grown_refl _ none) | (with_reducible refine grown_alloc ?_ _) | (with_reducible refine grown_drew ?_))))).mono ?_; rw [HM2.out, HS.out]; rintro e wa ⟨rfl, HXb, HBa⟩; replace HXb : Hid (SwAt wa lo bf bx nb p m2) := HXb; have HFa : Hid (Rf wa w.heap.size bf ab nb cb p m) := (Rf.keep HF.out (by repeat (first | (with_reducible exact grown_refl _ none) | (with_reducible refine grown_alloc ?_ _) | (with_reducible refine grown_drew ?_)))).kept HBa (by intro q e; cases e; have := HLX.out; have := HL1.out; omega); have o2 := row_cell (var_cell HBa (show (wr.alloc (.cells #[.int .u8 k, .int .i64 x, .int .i64 y, .int .i64 t] 31)).drew.heap[wr.heap.size]? = _ from heap_alloc_new wr _) (by have := HLX.out; have := HLF.out; omega)) 2 rfl; have HBwa : Hid (Below w.heap.size w wa) := below_grown (below_alloc' HB.out _ HB.out.size).drew HBa (Nat.le_trans HL1.out HLX.out.1) (Nat.le_trans HB.out.size (grown_size (grown_drew (grown_alloc (grown_refl wr none) _)))); clear HBa)
          | (go_at_call 17; refine (rfraw _ w.heap.size bf ab nb cb p m y (by omega) t9 hp (by exact Rf.keep HF.out (by repeat (first | (with_reducible exact grown_refl _ none) | (with_reducible refine grown_alloc ?_ _) | (with_reducible refine grown_drew ?_))))).mono ?_; rw [HM2.out, HS.out]; rintro e wa ⟨rfl, HFb, HBa⟩; replace HFb : Hid (Rf wa w.heap.size bf ab nb cb p m2) := HFb; have HXa : Hid (SwAt wa lo bf bx nb p m) := (SwAt.keep (b := bx) HX.out (by repeat (first | (with_reducible exact grown_refl _ none) | (with_reducible refine grown_alloc ?_ _) | (with_reducible refine grown_drew ?_)))).kept HBa (by intro q e; cases e; have := HPOS.out; exact ⟨by omega, .inr (Nat.le_refl _)⟩); have o2 := row_cell (var_cell HBa (show (wr.alloc (.cells #[.int .u8 k, .int .i64 x, .int .i64 y, .int .i64 t] 31)).drew.heap[wr.heap.size]? = _ from heap_alloc_new wr _) (by have := HLX.out; have := HLF.out; omega)) 2 rfl; have HBwa : Hid (Below w.heap.size w wa) := below_grown (below_alloc' HB.out _ HB.out.size).drew HBa HL2.out (Nat.le_trans HB.out.size (grown_size (grown_drew (grown_alloc (grown_refl wr none) _)))); clear HBa))
        all_goals (
          go_wp2
          have cx := HFz.out.c3
          have r1 := HG2.out.r1
          have r2 := HG2.out.r2
          have wz1 := wrap_i64 (x := m2.rng) (by omega) (by omega)
          go_quiet (first
            | (go_at_call 18; refine (swleft _ lo bf bx nb p m2 (by omega) t2 t3 (SwAt.keep HXz.out (grown_dN _ _))).mono ?_; rintro e w5 ⟨rfl, rfl⟩; exact ⟨rfl, drew1_ex _ _⟩)
            | (go_at_call 19; refine (rfleft _ w.heap.size bf ab nb cb p m2 (by omega) t2 t3 (Rf.keep HFz.out (grown_dN _ _))).mono ?_; rintro e w5 ⟨rfl, rfl⟩; exact ⟨rfl, drew1_ex _ _⟩)
            | (go_at_call 20; refine (swrng _ lo bf bx nb p m2 (SwAt.keep HXz.out (grown_dN _ _))).mono ?_; rintro e w5 ⟨rfl, rfl⟩; exact ⟨rfl, _, rfl⟩)
            | (go_at_call 12; refine (swget _ lo bf bx nb p m2 4096 HG2 (SwAt.keep HXz.out (grown_dN _ _))).mono ?_; rintro e w5 ⟨rfl, rfl⟩; exact ⟨rfl, _, rfl⟩)
            | (go_at_call 13; refine (rfget _ w.heap.size bf ab nb cb p m2 4096 HG2 (Rf.keep HFz.out (grown_dN _ _))).mono ?_; rintro e w5 ⟨rfl, q5, rfl⟩; exact ⟨rfl, drewN_ex _ _ _⟩))
          go_wp2
          go_roundw
          case rel => exact ⟨j + 1, m2, by omega, by go_num, HG2, HK.out.1, HK.out.2, SwAt.keep HXz.out (grown_dN _ _), Rf.keep HFz.out (grown_dN _ _), below_dN HBwz.out _⟩
          case measure => simp [intOf]; omega)
    · have e : j = n := by omega
      subst e
      clear hlt
      go_wp2
      go_ret
      exact ⟨rfl, HB.out⟩

end Go.Proofs.YtiejdlapgppbkaaDoor
