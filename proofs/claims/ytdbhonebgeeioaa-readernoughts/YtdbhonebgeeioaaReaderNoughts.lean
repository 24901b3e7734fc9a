/-
  The law ReaderNoughts of layer 7 as a walk: it returns true, and nothing that was there has turned.
-/
import Derived.Test.YtdbhonebgeeioaaReaderOpen
namespace Go.Proofs.Ytdbhonebgeeioaa
set_option linter.unusedVariables false
open Go.ChangeShapes Go.WideShapes Go.ChangeAt Go.RowKit

theorem below_alloc' {B : Nat} {W w : World} (h : Below B W w) (o : Obj) (hs : B ≤ w.heap.size) : Below B W (w.alloc o) := h.alloc hs o

theorem noughts_long (ab : Option Addr) (nb cb : Nat) (ao : Option Addr) (n cap : Nat) (many : Int) (w : World) (hn : 1300 < nb ∨ 200 < n) :
    Calls Try.prog 5 #[.slice ab nb cb, .slice ao n cap, .int .u8 many] w fun e w' => e = .returned (.bool true) ∧ Below w.heap.size w w' := by
  have hn' : (1300 : Int) < nb ∨ (¬ (1300 : Int) < nb ∧ (200 : Int) < (n : Int)) := by omega
  rcases hn' with h1 | ⟨h1, h2⟩
  · go_enter Try.func5, Try.ntmps5
    go_wp2_with (go_at_call 8; refine (rawake _).mono ?_; rintro e W0 ⟨rfl, hB0⟩)
    go_ret
    exact ⟨rfl, hB0⟩
  · go_enter Try.func5, Try.ntmps5
    go_wp2_with (go_at_call 8; refine (rawake _).mono ?_; rintro e W0 ⟨rfl, hB0⟩)
    go_ret
    exact ⟨rfl, hB0⟩

set_option maxHeartbeats 2000000 in
set_option maxRecDepth 20000 in
theorem noughts_any (ab : Option Addr) (nb cb : Nat) (p : Nat → Int) (ao : Option Addr) (n cap : Nat) (f : Nat → Opr) (many : Nat) (w : World) (hb : nb ≤ 1300) (hn : n ≤ 200) (hm : many ≤ 255) (hp : Hid (Bx nb p)) (hi : Hid (IntsAt w ab nb .u8 p)) (hf : Hid (OprsAt w ao n f)) :
    Calls Try.prog 5 #[.slice ab nb cb, .slice ao n cap, .int .u8 many] w fun e w' => e = .returned (.bool true) ∧ Below w.heap.size w w' := by
  have hn' : (n : Int) ≤ 200 := by omega
  have hb' : (nb : Int) ≤ 1300 := by omega
  have hm' : (many : Int) ≤ 255 := by omega
  have hcat : Hid (catF nb p (fun _ => 0) = p) := by
    funext i
    by_cases h : i < nb
    · rw [catF_lt _ _ h]
    · rw [catF_ge _ _ (by omega), hp.out.z i (by omega)]
  have hcat0 : Hid (catF 0 (fun _ => 0) p = p) := by funext i; rw [catF_ge _ _ (Nat.zero_le _)]; rfl
  have hp2 : Hid (Bx (nb + many) p) := ⟨hp.out.b, fun i h => hp.out.z i (by omega)⟩
  go_enter Try.func5, Try.ntmps5
  go_wp2_with (first
    | (go_at_call 8; refine (rawake _).mono ?_; rintro e W0 ⟨rfl, HB0⟩; replace HB0 : Hid (Below w.heap.size w W0) := HB0)
    | (at_builtin; refine wpList_zeros rfl (.tmp 26) (.tmp 28) rfl w1.heap.size (.slice a2 nb c2) nb p rfl HO2.out many rfl (by omega) (by omega) S2.out ?_; intro a3 c3 w3 HO3 HG3; rw [hcat.out] at HO3; have HB3 : Hid (Below w1.heap.size w1 w3) := below_row HB2.out HG3 (fun g e => (HO2.out.lt e).1) S2.out; replace HO3 : Hid (OwnN w3 w1.heap.size 5 .u8 (.slice a3 (nb + many) c3) (nb + many) p) := HO3; have HI3 : Hid (IntsAt w3 a3 (nb + many) .u8 p) := HO3.out.ints)
    | (at_builtin; refine wpList_cat rfl (.tmp 24) (.tmp 25) rfl w1.heap.size (.slice (some ⟨w1.heap.size, 0, none⟩) 0 0) 0 (fun _ => 0) rfl (World.ownsRow_made w1 #[] 0 (Nat.le_refl _) (by decide) rfl) ab nb cb p rfl HI1.out (by decide) (by omega) (by simp) ?_; intro a2 c2 w2 HO2 HG2; rw [Nat.zero_add, hcat0.out] at HO2; rw [Nat.zero_add]; replace HO2 : Hid (OwnN w2 w1.heap.size 5 .u8 (.slice a2 nb c2) nb p) := HO2; have HB2 : Hid (Below w1.heap.size w1 w2) := below_grown (b := w1.heap.size) ((Below.refl _ _).alloc (Nat.le_refl _) _) HG2 (Nat.le_refl _) (by simp); have S2 : Hid (w1.heap.size ≤ w2.heap.size) := HB2.out.size)
    | (go_at_call 9; refine (rdnew w3 a3 (nb + many) c3 p (by omega) hp2 HI3).mono ?_; rintro e w4 ⟨by', rfl, HY, HB4⟩; replace HY : Hid (RdAt w4 w3.heap.size w4.heap.size by' (nb + many) p (Re.new p)) := HY; replace HB4 : Hid (Below w3.heap.size w3 w4) := HB4)
    | (go_at_call 9; refine (rdnew W0 ab nb cb p (by omega) hp (hi.out.below HB0.out)).mono ?_; rintro e w1 ⟨bx, rfl, HX, HB1⟩; replace HX : Hid (RdAt w1 W0.heap.size w1.heap.size bx nb p (Re.new p)) := HX; have HI1 : Hid (IntsAt (w1.alloc (.cells #[] 5)) ab nb .u8 p) := ((hi.out.below HB0.out).below HB1).alloc _; replace HB1 : Hid (Below W0.heap.size W0 w1) := HB1))
  have HL1 : Hid (w.heap.size ≤ W0.heap.size) := HB0.out.size
  have HL2 : Hid (w1.heap.size ≤ w3.heap.size) := HB3.out.size
  have HBW : Hid (Below w.heap.size w w4) := ((HB0.out.trans (HB1.out.mono HB0.out.size)).trans (HB3.out.mono (Nat.le_trans HB0.out.size HB1.out.size))).trans (HB4.out.mono (Nat.le_trans (Nat.le_trans HB0.out.size HB1.out.size) HB3.out.size))
  have HXW : Hid (RdAt w4 W0.heap.size w1.heap.size bx nb p (Re.new p)) := (HX.out.keep (grown_below HB3.out none)).keep (grown_below HB4.out none)
  generalize W0.heap.size = lo1 at *
  generalize w1.heap.size = hi1 at *
  generalize w3.heap.size = lo2 at *
  generalize hh2 : w4.heap.size = hi2 at *
  clear HX HB1 HI1 HB0 HG2 HO2 HB2 S2 HG3 HB3 HO3 HI3 HB4
  go_loopw [33] (fun i wr => ∃ (j : Nat) (m : Re), j ≤ n ∧ i = .int .i64 j ∧ Hid m.Good ∧ m.tk ≤ 3 + 2 * j ∧ m.nb ≤ 0 ∧ Hid (RdAt wr lo1 hi1 bx nb p m) ∧ Hid (RdAt wr lo2 hi2 by' (nb + many) p m) ∧ Hid (Below w.heap.size w wr)) (fun i _ => n - (intOf i).toNat)
  case atStart => exact ⟨0, Re.new p, by omega, rfl, new_good hp.out, Nat.le_refl _, Nat.le_refl _, HXW, HY, HBW⟩
  case round =>
    obtain ⟨j, m, hj, rfl, HG, n1, n2, HX, HY, HB⟩ := hrel
    by_cases hlt : j < n
    · have hlt' : (j : Int) < n := by omega
      obtain ⟨bo, off, rfl, c0, c1, c2, c3, ho⟩ := (hf.out.below HB.out) j hlt
      generalize f j = o at *
      obtain ⟨k, x, y, t⟩ := o
      simp only at c0 c1 c2 c3
      clear ho
      have HLX := HX.out.lt
      have HLY := HY.out.lt
      have HLX : Hid (lo1 ≤ bx ∧ bx < hi1 ∧ bx < wr.heap.size) := HLX
      have HLY : Hid (lo2 ≤ by' ∧ by' < hi2 ∧ by' < wr.heap.size) := HLY
      have hg := getU_bd HG.out t
      have HE : Hid (∀ q, m.getU t = q → 0 ≤ q ∧ q ≤ 4095) := fun q e => by rw [← e]; exact hg
      clear hg
      obtain ⟨s, hs⟩ : ∃ s, m.getU t = s := ⟨_, rfl⟩
      obtain ⟨s0, s1⟩ := HE.out s hs
      have HS : Hid (m.getU t = s) := hs
      clear hs HE
      have hn2 := takeU_n m p s (s + 1) t
      have HG2 : Hid (m.takeU p s (s + 1) t).Good := takeU_good hp.out HG.out s (s + 1) t
      obtain ⟨m2, hm2⟩ : ∃ m2, m.takeU p s (s + 1) t = m2 := ⟨_, rfl⟩
      rw [hm2] at hn2 HG2
      have HM2 : Hid (m.takeU p s (s + 1) t = m2) := hm2
      clear hm2
      obtain ⟨k1, k2, k3⟩ := hn2
      have t1 : m.tk ≤ 800000 := by omega
      have t2 : m2.tk ≤ 900000 := by omega
      have t3 : m2.nb ≤ 900000 := by omega
      have HEL : Hid (m2.left (nb + many) = m2.left nb + 8 * (many : Int)) := by show _ = _; unfold Re.left; omega
      have lb : -100000 ≤ m2.left nb ∧ m2.left nb ≤ 100000 := by unfold Re.left; omega
      obtain ⟨lb0, lb1⟩ := lb
      have HK : Hid (m2.tk ≤ 3 + 2 * (j + 1) ∧ m2.nb ≤ 0) := by show _ ∧ _; omega
      clear k1 k2 k3 n1 n2
      go_wp2_with (first
        | (go_at_call 11; refine (rdget _ lo1 hi1 _ nb p m t HG (by exact RdAt.keep (b := bx) HX.out (by repeat (first | (with_reducible exact grown_refl _ none) | (with_reducible refine grown_alloc ?_ _) | (with_reducible refine grown_drew ?_))))).mono ?_; rw [HS.out]; rintro e w5 ⟨rfl, rfl⟩)
        | (go_at_call 11; refine (rdget _ lo2 hi2 _ (nb + many) p m t HG (by exact RdAt.keep (b := by') HY.out (by repeat (first | (with_reducible exact grown_refl _ none) | (with_reducible refine grown_alloc ?_ _) | (with_reducible refine grown_drew ?_))))).mono ?_; rw [HS.out]; rintro e w5 ⟨rfl, rfl⟩)
        | (go_at_call 13; refine (rdtakeU wa lo2 hi2 by' (nb + many) p m s (s + 1) t (by omega) t1 hp2 HG HYa).mono ?_; rw [HM2.out]; rintro e wb ⟨rfl, HYb, HBb⟩; replace HYb : Hid (RdAt wb lo2 hi2 by' (nb + many) p m2) := HYb; have HXb : Hid (RdAt wb lo1 hi1 bx nb p m2) := HXa.out.kept HBb (by intro q e; cases e; right; exact Nat.le_trans HL2.out HLY.out.1); have HBw : Hid (Below w.heap.size w wb) := below_grown HBwa.out HBb (by have := HLY.out.1; have := HL1.out; have := HL2.out; have := HLX.out; omega) HBwa.out.size)
        | (go_at_call 13; refine (rdtakeU _ lo1 hi1 bx nb p m s (s + 1) t (by omega) t1 hp HG (by exact RdAt.keep (b := bx) HX.out (by repeat (first | (with_reducible exact grown_refl _ none) | (with_reducible refine grown_alloc ?_ _) | (with_reducible refine grown_drew ?_))))).mono ?_; rw [HM2.out]; rintro e wa ⟨rfl, HXa, HBa⟩; replace HXa : Hid (RdAt wa lo1 hi1 bx nb p m2) := HXa; have HYa : Hid (RdAt wa lo2 hi2 by' (nb + many) p m) := (RdAt.keep (b := by') HY.out (grown_alloc (grown_refl _ none) _)).kept HBa (by intro q e; cases e; left; exact Nat.lt_of_lt_of_le HLX.out.2.1 HL2.out); have o3 := row_cell (var_cell HBa (heap_alloc_new _ _) (by have := HLX.out; omega)) 3 rfl; have HBwa : Hid (Below w.heap.size w wa) := below_grown (below_alloc' HB.out _ HB.out.size) HBa (Nat.le_trans HL1.out HLX.out.1) (Nat.le_trans HB.out.size (grown_size (grown_alloc (grown_refl wr none) _))); clear HBa)
        | (go_at_call 17; refine (rdleft _ lo2 hi2 _ (nb + many) p m2 (by omega) t2 t3 (by exact RdAt.keep (b := by') HYb.out (by repeat (first | (with_reducible exact grown_refl _ none) | (with_reducible refine grown_alloc ?_ _) | (with_reducible refine grown_drew ?_))))).mono ?_; rw [HEL.out]; rintro e w5 ⟨rfl, rfl⟩)
        | (go_at_call 17; refine (rdleft _ lo1 hi1 _ nb p m2 (by omega) t2 t3 (by exact RdAt.keep (b := bx) HXb.out (by repeat (first | (with_reducible exact grown_refl _ none) | (with_reducible refine grown_alloc ?_ _) | (with_reducible refine grown_drew ?_))))).mono ?_; rintro e w5 ⟨rfl, rfl⟩)
        | (go_at_call 19; refine (rdrng _ lo2 hi2 _ (nb + many) p m2 (by exact RdAt.keep (b := by') HYb.out (by repeat (first | (with_reducible exact grown_refl _ none) | (with_reducible refine grown_alloc ?_ _) | (with_reducible refine grown_drew ?_))))).mono ?_; rintro e w5 ⟨rfl, rfl⟩)
        | (go_at_call 19; refine (rdrng _ lo1 hi1 _ nb p m2 (by exact RdAt.keep (b := bx) HXb.out (by repeat (first | (with_reducible exact grown_refl _ none) | (with_reducible refine grown_alloc ?_ _) | (with_reducible refine grown_drew ?_))))).mono ?_; rintro e w5 ⟨rfl, rfl⟩))
      go_roundw
      case rel => exact ⟨j + 1, m2, by omega, by go_num, HG2, HK.out.1, HK.out.2, RdAt.keep (b := bx) HXb.out (by repeat (first | (with_reducible exact grown_refl _ none) | (with_reducible refine grown_alloc ?_ _) | (with_reducible refine grown_drew ?_))), RdAt.keep (b := by') HYb.out (by repeat (first | (with_reducible exact grown_refl _ none) | (with_reducible refine grown_alloc ?_ _) | (with_reducible refine grown_drew ?_))), by repeat (first | exact HBw.out | refine Below.drew ?_)⟩
      case measure => simp [intOf]; omega
    · have e : j = n := by omega
      subst e
      clear hlt
      go_wp2
      go_ret
      exact ⟨rfl, HB.out⟩

end Go.Proofs.Ytdbhonebgeeioaa
