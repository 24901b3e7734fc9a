/-
  The law ReaderOwn of layer 7 as a walk: it returns true, and nothing that was there has turned.
-/
import Derived.Test.YtdbhonebgeeioaaReaderNoughts
namespace Go.Proofs.Ytdbhonebgeeioaa
set_option linter.unusedVariables false
open Go.ChangeShapes Go.WideShapes Go.ChangeAt Go.RowKit

theorem own_long (ab : Option Addr) (nb cb : Nat) (ao : Option Addr) (n cap : Nat) (w : World) (hn : 1300 < nb ∨ 200 < n) :
    Calls Try.prog 7 #[.slice ab nb cb, .slice ao n cap] w fun e w' => e = .returned (.bool true) ∧ Below w.heap.size w w' := by
  have hn' : (1300 : Int) < nb ∨ (¬ (1300 : Int) < nb ∧ (200 : Int) < (n : Int)) := by omega
  rcases hn' with h1 | ⟨h1, h2⟩
  · go_enter Try.func7, Try.ntmps7
    go_wp2_with (go_at_call 8; refine (rawake _).mono ?_; rintro e W0 ⟨rfl, hB0⟩)
    go_ret
    exact ⟨rfl, hB0⟩
  · go_enter Try.func7, Try.ntmps7
    go_wp2_with (go_at_call 8; refine (rawake _).mono ?_; rintro e W0 ⟨rfl, hB0⟩)
    go_ret
    exact ⟨rfl, hB0⟩

set_option maxHeartbeats 4000000 in
set_option maxRecDepth 20000 in
theorem own_any (ab : Option Addr) (nb cb : Nat) (p : Nat → Int) (ao : Option Addr) (n cap : Nat) (f : Nat → Opr) (w : World) (hb : nb ≤ 1300) (hn : n ≤ 200) (hp : Hid (Bx nb p)) (hi : Hid (IntsAt w ab nb .u8 p)) (hf : Hid (OprsAt w ao n f)) :
    Calls Try.prog 7 #[.slice ab nb cb, .slice ao n cap] w fun e w' => e = .returned (.bool true) ∧ Below w.heap.size w w' := by
  have hn' : (n : Int) ≤ 200 := by omega
  have hb' : (nb : Int) ≤ 1300 := by omega
  have hcat0 : Hid (catF 0 (fun _ => 0) p = p) := by funext i; rw [catF_ge _ _ (Nat.zero_le _)]; rfl
  go_enter Try.func7, Try.ntmps7
  go_wp2_with (first
    | (go_at_call 8; refine (rawake _).mono ?_; rintro e W0 ⟨rfl, HB0⟩; have HI0 : Hid (IntsAt (W0.alloc (.cells #[] 5)) ab nb .u8 p) := (hi.out.below HB0).alloc _; replace HB0 : Hid (Below w.heap.size w W0) := HB0)
    | (at_builtin; refine wpList_cat rfl (.tmp 22) (.tmp 23) rfl W0.heap.size (.slice (some ⟨W0.heap.size, 0, none⟩) 0 0) 0 (fun _ => 0) rfl (World.ownsRow_made W0 #[] 0 (Nat.le_refl _) (by decide) rfl) ab nb cb p rfl HI0.out (by decide) (by omega) (by simp) ?_; intro ac cc wc HOc HGc; rw [Nat.zero_add, hcat0.out] at HOc; rw [Nat.zero_add]; replace HOc : Hid (OwnN wc W0.heap.size 5 .u8 (.slice ac nb cc) nb p) := HOc; have HBc : Hid (Below W0.heap.size W0 wc) := below_grown (b := W0.heap.size) ((Below.refl _ _).alloc (Nat.le_refl _) _) HGc (Nat.le_refl _) (by simp); have HIc : Hid (IntsAt wc ab nb .u8 p) := (hi.out.below HB0.out).below HBc.out; clear HGc)
    | (go_at_call 9; refine (rdnew w1 ac nb cc p (by omega) hp (HOc.out.ints.below HB1.out)).mono ?_; rintro e w2 ⟨by', rfl, HY, HB2⟩; replace HY : Hid (RdAt w2 w1.heap.size w2.heap.size by' nb p (Re.new p)) := HY; replace HB2 : Hid (Below w1.heap.size w1 w2) := HB2)
    | (go_at_call 9; refine (rdnew wc ab nb cb p (by omega) hp HIc).mono ?_; rintro e w1 ⟨bx, rfl, HX, HB1⟩; replace HX : Hid (RdAt w1 wc.heap.size w1.heap.size bx nb p (Re.new p)) := HX; replace HB1 : Hid (Below wc.heap.size wc w1) := HB1))
  have HL0 : Hid (w.heap.size ≤ W0.heap.size) := HB0.out.size
  have HL1 : Hid (w.heap.size ≤ wc.heap.size) := Nat.le_trans HB0.out.size HBc.out.size
  have HLc : Hid (∀ g, (Value.slice ac nb cc).ownBlock = some g → g < wc.heap.size) := fun g e => (HOc.out.lt e).2
  have HBW : Hid (Below w.heap.size w w2) := ((HB0.out.trans (HBc.out.mono HB0.out.size)).trans (HB1.out.mono HL1.out)).trans (HB2.out.mono (Nat.le_trans HL1.out HB1.out.size))
  have HXW : Hid (RdAt w2 wc.heap.size w1.heap.size bx nb p (Re.new p)) := HX.out.keep (grown_below HB2.out none)
  have HCW : Hid (OwnN w2 W0.heap.size 5 .u8 (.slice ac nb cc) nb p) := (HOc.out.kept (grown_below HB1.out none) (by cases hv : Value.ownBlock (.slice ac nb cc) <;> simp)).kept (grown_below HB2.out none) (by cases hv : Value.ownBlock (.slice ac nb cc) <;> simp)
  have HL2 : Hid (wc.heap.size ≤ w1.heap.size) := HB1.out.size
  generalize W0.heap.size = B0 at *
  generalize wc.heap.size = lo1 at *
  generalize w1.heap.size = hi1 at *
  generalize hh2 : w2.heap.size = hi2 at *
  clear HX HB1 HI0 HB0 HBc HIc HOc HB2
  go_loopw [8, 31] (fun _ i wr => ∃ (l : Nat) (q : Nat → Int), l ≤ nb ∧ i = .int .i64 l ∧ Hid (OwnN wr B0 5 .u8 (.slice ac nb cc) nb q) ∧ Hid (RdAt wr lo1 hi1 bx nb p (Re.new p)) ∧ Hid (RdAt wr hi1 hi2 by' nb p (Re.new p)) ∧ Hid (Below w.heap.size w wr)) (fun _ i _ => nb - (intOf i).toNat)
  case atStart => exact ⟨0, p, by omega, rfl, HCW, HXW, HY, HBW⟩
  case round =>
    obtain ⟨l, q, hl, rfl, HC, HX, HY, HB⟩ := hrel
    by_cases hlt : l < nb
    · have hlt' : (l : Int) < nb := by omega
      obtain ⟨g, cap', e, g0, g1, gc, gm⟩ := HC.out.form (by omega)
      cases e
      have cc' := HC.out.cell hlt
      have fz := HC.out.free l
      have HLG : Hid (g < lo1) := HLc.out g rfl
      have HG0 : Hid (B0 ≤ g) := g0
      clear g0 g1 gc gm
      go_wp2
      go_roundw
      case rel => exact ⟨l + 1, _, by omega, by go_num, HC.out.set l _, HX.out.kept (grown_setb _ g l _) (by intro q e; cases e; left; exact HLG.out), HY.out.kept (grown_setb _ g l _) (by intro q e; cases e; left; have := HLG.out; have := HL2.out; omega), below_row HB.out (grown_setb _ g l _) (by intro q e; cases e; exact Nat.le_trans HL0.out HG0.out) HB.out.size⟩
      case measure => simp [intOf]; omega
    · have e : l = nb := by omega
      subst e
      clear hlt HC HCW HXW HBW
      go_wp2
      obtain ⟨w5, hw5⟩ : ∃ x, x = wr := ⟨_, rfl⟩
      rw [← hw5] at HX HY HB
      rw [← hw5]
      clear hw5 wr
      have HL1' := HL1
      clear HLc HL0
      go_loopw [43] (fun i wr => ∃ (j : Nat) (m : Re), j ≤ n ∧ i = .int .i64 j ∧ Hid m.Good ∧ m.tk ≤ 3 + 2 * j ∧ m.nb ≤ 16 * j ∧ Hid (RdAt wr lo1 hi1 bx l p m) ∧ Hid (RdAt wr hi1 hi2 by' l p m) ∧ Hid (Below w.heap.size w wr)) (fun i _ => n - (intOf i).toNat)
      case atStart => exact ⟨0, Re.new p, by omega, rfl, new_good hp.out, Nat.le_refl _, Nat.le_refl _, HX, HY, HB⟩
      case round =>
        obtain ⟨j, m, hj, rfl, HG, n1, n2, HX, HY, HB⟩ := hrel
        by_cases hlt : j < n
        · have hlt' : (j : Int) < n := by omega
          obtain ⟨bo, off, rfl, c0, c1, c2, c3, ho⟩ := (hf.out.below HB.out) j hlt
          generalize f j = o at *
          obtain ⟨k, x, y, t⟩ := o
          simp only at c0 c1 c2 c3
          have k0 : 0 ≤ k := ho.k0
          have k255 : k ≤ 255 := ho.k1
          clear ho
          have HLX := HX.out.lt
          have HLY := HY.out.lt
          have HLX : Hid (lo1 ≤ bx ∧ bx < hi1 ∧ bx < wr.heap.size) := HLX
          have HLY : Hid (hi1 ≤ by' ∧ by' < hi2 ∧ by' < wr.heap.size) := HLY
          have e3 : Int.tmod k 3 = k % 3 := Int.tmod_eq_emod_of_nonneg k0
          have t1 : m.tk ≤ 800000 := by omega
          have t9 : m.nb ≤ 700000 := by omega
          by_cases hk2 : k % 3 = 2
          · have HK : Hid ((m.raw (rawK y)).tk ≤ 3 + 2 * (j + 1) ∧ (m.raw (rawK y)).nb ≤ 16 * (j + 1)) := by have := rawK_le y; show m.tk ≤ _ ∧ m.nb + rawK y ≤ _; omega
            have HG2 : Hid (m.raw (rawK y)).Good := rawRe_good HG.out _
            obtain ⟨m2, hm2⟩ : ∃ m2, m.raw (rawK y) = m2 := ⟨_, rfl⟩
            rw [hm2] at HK HG2
            have HM2 : Hid (m.raw (rawK y) = m2) := hm2
            clear hm2
            obtain ⟨s, hs⟩ : ∃ s, rsum l p m.nb (rawK y) = s := ⟨_, rfl⟩
            have HS : Hid (rsum l p m.nb (rawK y) = s) := hs
            clear hs
            go_wp2
            go_region_with (first
              | (go_at_call 15; refine (rdraw wa hi1 hi2 by' l p m y (by omega) t9 hp HYa).mono ?_; rw [HM2.out, HS.out]; rintro e wb ⟨rfl, HYf, HBb⟩; replace HYf : Hid (RdAt wb hi1 hi2 by' l p m2) := HYf; have HXf : Hid (RdAt wb lo1 hi1 bx l p m2) := HXb.out.kept HBb (by intro q e; cases e; right; exact HLY.out.1); have HBf : Hid (Below w.heap.size w wb) := below_grown HBwa.out HBb (by have := HLY.out; have := HL1.out; have := HL2.out; omega) HBwa.out.size; clear HBb)
              | (go_at_call 15; refine (rdraw wa lo1 hi1 bx l p m y (by omega) t9 hp HXa).mono ?_; rw [HM2.out, HS.out]; rintro e wb ⟨rfl, HXf, HBb⟩; replace HXf : Hid (RdAt wb lo1 hi1 bx l p m2) := HXf; have HYf : Hid (RdAt wb hi1 hi2 by' l p m2) := HYb.out.kept HBb (by intro q e; cases e; left; exact HLX.out.2.1); have HBf : Hid (Below w.heap.size w wb) := below_grown HBwa.out HBb (by have := HLX.out; have := HL1.out; omega) HBwa.out.size; clear HBb)
              | (go_at_call 15; refine (rdraw _ lo1 hi1 _ l p m y (by omega) t9 hp (by exact RdAt.keep (b := bx) HX.out (by repeat (first | (with_reducible exact grown_refl _ none) | (with_reducible refine grown_alloc ?_ _) | (with_reducible refine grown_drew ?_))))).mono ?_; rw [HM2.out, HS.out]; rintro e wa ⟨rfl, HXb, HBa⟩; replace HXb : Hid (RdAt wa lo1 hi1 bx l p m2) := HXb; have HYa : Hid (RdAt wa hi1 hi2 by' l p m) := (RdAt.keep (b := by') HY.out (by repeat (first | (with_reducible exact grown_refl _ none) | (with_reducible refine grown_alloc ?_ _) | (with_reducible refine grown_drew ?_)))).kept HBa (by intro q e; cases e; left; exact HLX.out.2.1); have o2 := row_cell (var_cell HBa (show (wr.alloc (.cells #[.int .u8 k, .int .i64 x, .int .i64 y, .int .i64 t] 30)).drew.heap[wr.heap.size]? = _ from heap_alloc_new wr _) (by have := HLX.out; have := HLY.out; omega)) 2 rfl; have HBwa : Hid (Below w.heap.size w wa) := below_grown (below_alloc' HB.out _ HB.out.size).drew HBa (Nat.le_trans HL1.out HLX.out.1) (Nat.le_trans HB.out.size (grown_size (grown_drew (grown_alloc (grown_refl wr none) _)))); clear HBa)
              | (go_at_call 15; refine (rdraw _ hi1 hi2 _ l p m y (by omega) t9 hp (by exact RdAt.keep (b := by') HY.out (by repeat (first | (with_reducible exact grown_refl _ none) | (with_reducible refine grown_alloc ?_ _) | (with_reducible refine grown_drew ?_))))).mono ?_; rw [HM2.out, HS.out]; rintro e wa ⟨rfl, HYb, HBa⟩; replace HYb : Hid (RdAt wa hi1 hi2 by' l p m2) := HYb; have HXa : Hid (RdAt wa lo1 hi1 bx l p m) := (RdAt.keep (b := bx) HX.out (by repeat (first | (with_reducible exact grown_refl _ none) | (with_reducible refine grown_alloc ?_ _) | (with_reducible refine grown_drew ?_)))).kept HBa (by intro q e; cases e; right; exact HLY.out.1); have o2 := row_cell (var_cell HBa (show (wr.alloc (.cells #[.int .u8 k, .int .i64 x, .int .i64 y, .int .i64 t] 30)).drew.heap[wr.heap.size]? = _ from heap_alloc_new wr _) (by have := HLX.out; have := HLY.out; omega)) 2 rfl; have HBwa : Hid (Below w.heap.size w wa) := below_grown (below_alloc' HB.out _ HB.out.size).drew HBa (by have := HLY.out; have := HL1.out; have := HL2.out; omega) (Nat.le_trans HB.out.size (grown_size (grown_drew (grown_alloc (grown_refl wr none) _)))); clear HBa))
            all_goals (
              go_wp2
              go_roundw
              case rel => exact ⟨j + 1, m2, by omega, by go_num, HG2, HK.out.1, HK.out.2, HXf, HYf, HBf⟩
              case measure => simp [intOf]; omega)
          · have hk2' : (k % 3 == 2) = false := by simp; omega
            have hg := getU_bd HG.out t
            have HE : Hid (∀ q, m.getU t = q → 0 ≤ q ∧ q ≤ 4095) := fun q e => by rw [← e]; exact hg
            clear hg
            obtain ⟨s, hs⟩ : ∃ s, m.getU t = s := ⟨_, rfl⟩
            obtain ⟨s0, s1⟩ := HE.out s hs
            have HS : Hid (m.getU t = s) := hs
            clear hs HE
            have hn2 := takeU_n m p s (s + 1) t
            have HG2 : Hid (m.takeU p s (s + 1) t).Good := takeU_good hp.out HG.out s (s + 1) t
            obtain ⟨m2, hm2⟩ : ∃ m2, m.takeU p s (s + 1) t = m2 := ⟨_, rfl⟩
            rw [hm2] at hn2 HG2
            have HM2 : Hid (m.takeU p s (s + 1) t = m2) := hm2
            clear hm2
            have HK : Hid (m2.tk ≤ 3 + 2 * (j + 1) ∧ m2.nb ≤ 16 * (j + 1)) := by show _ ∧ _; omega
            clear hn2
            go_wp2_with (first
              | (go_at_call 11; refine (rdget _ lo1 hi1 _ l p m t HG (by exact RdAt.keep (b := bx) HX.out (by repeat (first | (with_reducible exact grown_refl _ none) | (with_reducible refine grown_alloc ?_ _) | (with_reducible refine grown_drew ?_))))).mono ?_; rw [HS.out]; rintro e w5 ⟨rfl, rfl⟩)
              | (go_at_call 11; refine (rdget _ hi1 hi2 _ l p m t HG (by exact RdAt.keep (b := by') HY.out (by repeat (first | (with_reducible exact grown_refl _ none) | (with_reducible refine grown_alloc ?_ _) | (with_reducible refine grown_drew ?_))))).mono ?_; rw [HS.out]; rintro e w5 ⟨rfl, rfl⟩)
              | (go_at_call 13; refine (rdtakeU wa hi1 hi2 by' l p m s (s + 1) t (by omega) t1 hp HG HYa).mono ?_; rw [HM2.out]; rintro e wb ⟨rfl, HYb, HBb⟩; replace HYb : Hid (RdAt wb hi1 hi2 by' l p m2) := HYb; have HXb : Hid (RdAt wb lo1 hi1 bx l p m2) := HXa.out.kept HBb (by intro q e; cases e; right; exact HLY.out.1); have HBw : Hid (Below w.heap.size w wb) := below_grown HBwa.out HBb (by have := HLY.out.1; have := HL1.out; have := HL2.out; omega) HBwa.out.size)
              | (go_at_call 13; refine (rdtakeU _ lo1 hi1 bx l p m s (s + 1) t (by omega) t1 hp HG (by exact RdAt.keep (b := bx) HX.out (by repeat (first | (with_reducible exact grown_refl _ none) | (with_reducible refine grown_alloc ?_ _) | (with_reducible refine grown_drew ?_))))).mono ?_; rw [HM2.out]; rintro e wa ⟨rfl, HXa, HBa⟩; replace HXa : Hid (RdAt wa lo1 hi1 bx l p m2) := HXa; have HYa : Hid (RdAt wa hi1 hi2 by' l p m) := (RdAt.keep (b := by') HY.out (grown_alloc (grown_refl _ none) _)).kept HBa (by intro q e; cases e; left; exact HLX.out.2.1); have o3 := row_cell (var_cell HBa (heap_alloc_new _ _) (by have := HLX.out; omega)) 3 rfl; have HBwa : Hid (Below w.heap.size w wa) := below_grown (below_alloc' HB.out _ HB.out.size) HBa (Nat.le_trans HL1.out HLX.out.1) (Nat.le_trans HB.out.size (grown_size (grown_alloc (grown_refl wr none) _))); clear HBa))
            go_roundw
            case rel => exact ⟨j + 1, m2, by omega, by go_num, HG2, HK.out.1, HK.out.2, HXb, HYb, HBw⟩
            case measure => simp [intOf]; omega
        · have e : j = n := by omega
          subst e
          clear hlt
          have t2 : m.tk ≤ 900000 := by omega
          have t3 : m.nb ≤ 900000 := by omega
          go_wp2_with (first
            | (go_at_call 17; refine (rdleft _ lo1 hi1 _ l p m (by omega) t2 t3 (by exact RdAt.keep (b := bx) HX.out (by repeat (first | (with_reducible exact grown_refl _ none) | (with_reducible refine grown_alloc ?_ _) | (with_reducible refine grown_drew ?_))))).mono ?_; rintro e w5 ⟨rfl, rfl⟩)
            | (go_at_call 17; refine (rdleft _ hi1 hi2 _ l p m (by omega) t2 t3 (by exact RdAt.keep (b := by') HY.out (by repeat (first | (with_reducible exact grown_refl _ none) | (with_reducible refine grown_alloc ?_ _) | (with_reducible refine grown_drew ?_))))).mono ?_; rintro e w5 ⟨rfl, rfl⟩)
            | (go_at_call 19; refine (rdrng _ lo1 hi1 _ l p m (by exact RdAt.keep (b := bx) HX.out (by repeat (first | (with_reducible exact grown_refl _ none) | (with_reducible refine grown_alloc ?_ _) | (with_reducible refine grown_drew ?_))))).mono ?_; rintro e w5 ⟨rfl, rfl⟩)
            | (go_at_call 19; refine (rdrng _ hi1 hi2 _ l p m (by exact RdAt.keep (b := by') HY.out (by repeat (first | (with_reducible exact grown_refl _ none) | (with_reducible refine grown_alloc ?_ _) | (with_reducible refine grown_drew ?_))))).mono ?_; rintro e w5 ⟨rfl, rfl⟩))
          go_ret
          exact ⟨rfl, by repeat (first | exact HB.out | refine Below.drew ?_)⟩

end Go.Proofs.Ytdbhonebgeeioaa
