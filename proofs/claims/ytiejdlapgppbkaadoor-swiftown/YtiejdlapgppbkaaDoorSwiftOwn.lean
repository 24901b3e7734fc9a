/-
  The law SwiftOwn of layer 8 as a walk: it returns true, and nothing that was there has turned.
-/
import Derived.Test.YtiejdlapgppbkaaDoorSwiftLaws
namespace Go.Proofs.YtiejdlapgppbkaaDoor
set_option linter.unusedVariables false
open Go.ChangeShapes Go.WideShapes Go.ChangeAt Go.RowKit

theorem ints_str {w : World} {ao : Option Addr} {n cap : Nat} {p : Nat → Int} (h : IntsAt w ao n .u8 p) : (convert 22 9 (.slice ao n cap)).run Tryd.prog w = .ok (.string (strOf p n)) w := by
  cases n with
  | zero =>
    cases ao with
    | none => exact run_convert_bytes_nil w 22 5 Tryd.underlying22 Tryd.underlying5 0 cap 9 Tryd.underlying9
    | some ad =>
      rw [run_convert_bytes_string w 22 9 5 _ 0 cap Tryd.underlying22 Tryd.underlying5 Tryd.underlying9]
      simp [Conv.bytesToString, loadCells, loadCellsFrom]
      rfl
  | succ m =>
    obtain ⟨b, off, rfl, _⟩ := h 0 (by omega)
    refine run_convert_bytes_arg (P := Tryd.prog) w 22 5 Tryd.underlying22 Tryd.underlying5 b off (m + 1) cap ((List.range (m + 1)).map p) (by simp) (fun i hi => ?_) 9 Tryd.underlying9
    obtain ⟨b', off', e, hc⟩ := h i hi
    cases e
    rw [hc]
    simp [List.getD, hi]
theorem own_keep {w w' : World} {B b lo n : Nat} {v : Value} {q : Nat → Int} (h : OwnN w B 5 .u8 v n q) (hg : w.grownBy w' (some b)) (hl : ∀ g, v.ownBlock = some g → g < lo) (hb : lo ≤ b) : OwnN w' B 5 .u8 v n q :=
  h.kept hg (by
    cases hv : v.ownBlock with
    | none => exact .inl rfl
    | some g => right; intro e; cases e; have := hl b hv; omega)
theorem own_none {w w' : World} {B n : Nat} {v : Value} {q : Nat → Int} (h : OwnN w B 5 .u8 v n q) (hg : w.grownBy w' none) : OwnN w' B 5 .u8 v n q :=
  h.kept hg (by cases hv : v.ownBlock <;> simp)

theorem sown_long (ab : Option Addr) (nb cb : Nat) (ao : Option Addr) (n cap : Nat) (w : World) (hn : 1300 < nb ∨ 200 < n) (hT : Hid (Tz w)) :
    Calls Tryd.prog 7 #[.slice ab nb cb, .slice ao n cap] w fun e w' => e = .returned (.bool true) ∧ Below w.heap.size w w' := by
  go_enter Tryd.func7, Tryd.ntmps7
  go_wp2_with (first
    | (go_at_call 8; refine (sawake _ hT).mono ?_; rintro e W0 ⟨rfl, hB0⟩; replace hB0 : Hid (Below w.heap.size w W0) := hB0)
    | (go_at_call 9; refine (slong_yes ab nb cb ao n cap _ hn).mono ?_; rintro e W1 ⟨rfl, rfl⟩))
  go_ret
  exact ⟨rfl, hB0.out⟩

set_option maxHeartbeats 8000000 in
set_option maxRecDepth 20000 in
theorem sown_any (ab : Option Addr) (nb cb : Nat) (p : Nat → Int) (ao : Option Addr) (n cap : Nat) (f : Nat → Opr) (w : World) (hb : nb ≤ 1300) (hn : n ≤ 200) (hp : Hid (Bx nb p)) (hi : Hid (IntsAt w ab nb .u8 p)) (hf : Hid (OprsAt w ao n f)) (hT : Hid (Tz w)) :
    Calls Tryd.prog 7 #[.slice ab nb cb, .slice ao n cap] w fun e w' => e = .returned (.bool true) ∧ Below w.heap.size w w' := by
  have hn' : (n : Int) ≤ 200 := by omega
  have hb' : (nb : Int) ≤ 1300 := by omega
  have hcat0 : Hid (catF 0 (fun _ => 0) p = p) := by funext i; rw [catF_ge _ _ (Nat.zero_le _)]; rfl
  go_enter Tryd.func7, Tryd.ntmps7
  go_wp2_with (first
    | (go_at_call 8; refine (sawake _ hT).mono ?_; rintro e W0 ⟨rfl, HB0⟩; have HT0 : Hid (Tz W0) := hT.out.below HB0; have HI0 : Hid (IntsAt (W0.alloc (.cells #[] 5)) ab nb .u8 p) := (hi.out.below HB0).alloc _; replace HB0 : Hid (Below w.heap.size w W0) := HB0)
    | (go_at_call 9; refine (slong_no ab nb cb ao n cap _ hb hn).mono ?_; rintro e W1 ⟨rfl, rfl⟩)
    | (at_builtin; refine wpList_cat rfl (.tmp 17) (.tmp 18) rfl W1.heap.size (.slice (some ⟨W1.heap.size, 0, none⟩) 0 0) 0 (fun _ => 0) rfl (World.ownsRow_made W1 #[] 0 (Nat.le_refl _) (by decide) rfl) ab nb cb p rfl HI0.out (by decide) (by omega) (by simp) ?_; intro ac cc wc HOc HGc; rw [Nat.zero_add, hcat0.out] at HOc; rw [Nat.zero_add]; replace HOc : Hid (OwnN wc W1.heap.size 5 .u8 (.slice ac nb cc) nb p) := HOc; have HBc : Hid (Below W1.heap.size W1 wc) := below_grown (b := W1.heap.size) ((Below.refl _ _).alloc (Nat.le_refl _) _) HGc (Nat.le_refl _) (by simp); have HIc : Hid (IntsAt wc ab nb .u8 p) := (hi.out.below HB0.out).below HBc.out; have HTc : Hid (Tz wc) := HT0.out.below HBc.out; clear HGc)
    | (go_at_call 10; refine (swnew w1 ac nb cc p (by omega) hp (HTc.out.below HB1.out) (HOc.out.ints.below HB1.out)).mono ?_; rintro e w2 ⟨by', rfl, HY, HB2⟩; replace HY : Hid (SwAt w2 w1.heap.size w2.heap.size by' nb p (Re.new p)) := HY; have v1 := ints_str (cap := cc) ((HOc.out.ints.below HB1.out).below HB2); have v2 := ints_str (cap := cb) ((HIc.out.below HB1.out).below HB2); replace HB2 : Hid (Below w1.heap.size w1 w2) := HB2)
    | (go_at_call 10; refine (swnew wc ab nb cb p (by omega) hp HTc HIc).mono ?_; rintro e w1 ⟨bx, rfl, HX, HB1⟩; replace HX : Hid (SwAt w1 wc.heap.size w1.heap.size bx nb p (Re.new p)) := HX; replace HB1 : Hid (Below wc.heap.size wc w1) := HB1))
  have HL0 : Hid (w.heap.size ≤ W1.heap.size) := HB0.out.size
  have HL1 : Hid (w.heap.size ≤ wc.heap.size) := Nat.le_trans HB0.out.size HBc.out.size
  have HLc : Hid (∀ g, (Value.slice ac nb cc).ownBlock = some g → g < wc.heap.size) := fun g e => (HOc.out.lt e).2
  have HBW : Hid (Below w.heap.size w w2) := ((HB0.out.trans (HBc.out.mono HB0.out.size)).trans (HB1.out.mono HL1.out)).trans (HB2.out.mono (Nat.le_trans HL1.out HB1.out.size))
  have HXW : Hid (SwAt w2 wc.heap.size w1.heap.size bx nb p (Re.new p)) := HX.out.keep (grown_below HB2.out none)
  have HCW : Hid (OwnN w2 W1.heap.size 5 .u8 (.slice ac nb cc) nb p) := own_none (own_none HOc.out (grown_below HB1.out none)) (grown_below HB2.out none)
  have HL2 : Hid (wc.heap.size ≤ w1.heap.size) := HB1.out.size
  have HL3 : Hid (0 < W1.heap.size) := HT0.out.pos
  generalize W1.heap.size = B0 at *
  generalize wc.heap.size = lo1 at *
  generalize w1.heap.size = hi1 at *
  generalize hh2 : w2.heap.size = hi2 at *
  clear HX HB1 HI0 HB0 HBc HIc HOc HB2 HT0 HTc v1 v2
  go_loopw [8, 31] (fun _ i wr => ∃ (l : Nat) (q : Nat → Int), l ≤ nb ∧ i = .int .i64 l ∧ Hid (OwnN wr B0 5 .u8 (.slice ac nb cc) nb q) ∧ Hid (SwAt wr lo1 hi1 bx nb p (Re.new p)) ∧ Hid (SwAt wr hi1 hi2 by' nb p (Re.new p)) ∧ Hid (Below w.heap.size w wr)) (fun _ i _ => nb - (intOf i).toNat)
  case atStart => exact ⟨0, p, by omega, rfl, HCW, HXW, HY, HBW⟩
  case round =>
    obtain ⟨l, q, hl, rfl, HC, HX, HY, HB⟩ := hrel
    by_cases hlt : l < nb
    · have hlt' : (l : Int) < nb := by omega
      obtain ⟨g, cap', e, g0, g1, gc, gm⟩ := HC.out.form (by omega)
      cases e
      have cc' := HC.out.cell hlt
      have fz := HC.out.free l
      have HLG : Hid (g < lo1) := HLc.out g rfl
      have HG0 : Hid (B0 ≤ g) := g0
      clear g0 g1 gc gm
      go_wp2
      go_roundw
      case rel => exact ⟨l + 1, _, by omega, by go_num, HC.out.set l _, HX.out.kept (grown_setb _ g l _) (by intro q e; cases e; have := HLG.out; have := HG0.out; have := HL3.out; exact ⟨by omega, .inl (by omega)⟩), HY.out.kept (grown_setb _ g l _) (by intro q e; cases e; have := HLG.out; have := HL2.out; have := HG0.out; have := HL3.out; exact ⟨by omega, .inl (by omega)⟩), below_row HB.out (grown_setb _ g l _) (by intro q e; cases e; exact Nat.le_trans HL0.out HG0.out) HB.out.size⟩
      case measure => simp [intOf]; omega
    · have e : l = nb := by omega
      subst e
      clear hlt HCW HXW HBW
      have vs := ints_str (cap := cc) HC.out.ints
      obtain ⟨st, hst⟩ : ∃ st, strOf q l = st := ⟨_, rfl⟩
      rw [hst] at vs
      have HST : Hid (strOf q l = st) := hst
      clear hst
      go_wp2
      clear vs
      obtain ⟨w5, hw5⟩ : ∃ x, x = wr := ⟨_, rfl⟩
      rw [← hw5] at HX HY HB HC
      rw [← hw5]
      clear hw5 wr
      go_loopw [45] (fun i wr => ∃ (j : Nat) (m : Re), j ≤ n ∧ i = .int .i64 j ∧ Hid m.Good ∧ m.tk ≤ 3 + 2 * j ∧ m.nb ≤ 16 * j ∧ Hid (SwAt wr lo1 hi1 bx l p m) ∧ Hid (SwAt wr hi1 hi2 by' l p m) ∧ Hid (OwnN wr B0 5 .u8 (.slice ac l cc) l q) ∧ Hid (Below w.heap.size w wr)) (fun i _ => n - (intOf i).toNat)
      case atStart => exact ⟨0, Re.new p, by omega, rfl, new_good hp.out, Nat.le_refl _, Nat.le_refl _, HX, HY, HC, HB⟩
      case round =>
        obtain ⟨j, m, hj, rfl, HG, n1, n2, HX, HY, HC, HB⟩ := hrel
        by_cases hlt : j < n
        · have hlt' : (j : Int) < n := by omega
          obtain ⟨bo, off, rfl, c0, c1, c2, c3, ho⟩ := (hf.out.below HB.out) j hlt
          generalize f j = o at *
          obtain ⟨k, x, y, t⟩ := o
          simp only at c0 c1 c2 c3
          have k0 : 0 ≤ k := ho.k0
          have k255 : k ≤ 255 := ho.k1
          clear ho
          have HLX := HX.out.lt
          have HLY := HY.out.lt
          have HLX : Hid (0 < lo1 ∧ lo1 ≤ bx ∧ bx < hi1 ∧ bx < wr.heap.size) := HLX
          have HLY : Hid (0 < hi1 ∧ hi1 ≤ by' ∧ by' < hi2 ∧ by' < wr.heap.size) := HLY
          have t9 : m.nb ≤ 700000 := by omega
          obtain ⟨gt, hgt⟩ : ∃ s, m.getU t = s := ⟨_, rfl⟩
          have HGT : Hid (m.getU t = gt) := hgt
          clear hgt
          have HK1 : Hid ((m.raw (rawK y)).tk ≤ 3 + 2 * j ∧ (m.raw (rawK y)).nb ≤ 16 * (j + 1)) := by have := rawK_le y; show m.tk ≤ _ ∧ m.nb + rawK y ≤ _; omega
          have HG1 : Hid (m.raw (rawK y)).Good := rawRe_good HG.out _
          obtain ⟨m1, hm1⟩ : ∃ m1, m.raw (rawK y) = m1 := ⟨_, rfl⟩
          rw [hm1] at HK1 HG1
          have HM1 : Hid (m.raw (rawK y) = m1) := hm1
          clear hm1
          obtain ⟨s, hs⟩ : ∃ s, rsum l p m.nb (rawK y) = s := ⟨_, rfl⟩
          have HS : Hid (rsum l p m.nb (rawK y) = s) := hs
          clear hs
          have t1 : m1.tk ≤ 800000 := by have := HK1.out.1; omega
          have hn2 := takeU_n m1 p x y t
          have HG2 : Hid (m1.takeU p x y t).Good := takeU_good hp.out HG1.out x y t
          obtain ⟨m2, hm2⟩ : ∃ m2, m1.takeU p x y t = m2 := ⟨_, rfl⟩
          rw [hm2] at hn2 HG2
          have HM2 : Hid (m1.takeU p x y t = m2) := hm2
          clear hm2
          have HK : Hid (m2.tk ≤ 3 + 2 * (j + 1) ∧ m2.nb ≤ 16 * (j + 1)) := by have := HK1.out; show _ ∧ _; omega
          clear hn2
          go_wp2
          go_region_with (first
            | (go_at_call 12; refine (swget _ lo1 hi1 _ l p m t HG (by exact SwAt.keep (b := bx) HX.out (by repeat (first | (with_reducible exact grown_refl _ none) | (with_reducible refine grown_alloc ?_ _) | (with_reducible refine grown_drew ?_))))).mono ?_; rw [HGT.out]; rintro e w5 ⟨rfl, rfl⟩)
            | (go_at_call 12; refine (swget _ hi1 hi2 _ l p m t HG (by exact SwAt.keep (b := by') HY.out (by repeat (first | (with_reducible exact grown_refl _ none) | (with_reducible refine grown_alloc ?_ _) | (with_reducible refine grown_drew ?_))))).mono ?_; rw [HGT.out]; rintro e w5 ⟨rfl, rfl⟩)
            | (go_at_call 16; refine (swraw wa hi1 hi2 by' l p m y (by omega) t9 hp HYa).mono ?_; rw [HM1.out, HS.out]; rintro e wb ⟨rfl, HYf, HBb⟩; replace HYf : Hid (SwAt wb hi1 hi2 by' l p m1) := HYf; have HXf : Hid (SwAt wb lo1 hi1 bx l p m1) := HXb.out.kept HBb (by intro q e; cases e; have := HLX.out; have := HLY.out; exact ⟨by omega, .inr (by omega)⟩); have HCf : Hid (OwnN wb B0 5 .u8 (.slice ac l cc) l q) := own_keep HCa.out HBb HLc.out (by have := HLX.out; have := HLY.out; have := HL1.out; have := HL2.out; omega); have hv := var_cell HBb HVa.out (by have := HLX.out; have := HLY.out; omega); have d1 := row_cell hv 1 rfl; have d2 := row_cell hv 2 rfl; have d3 := row_cell hv 3 rfl; have HVf : Hid (wb.heap[wr.heap.size]? = some (.cells #[.int .u8 k, .int .i64 x, .int .i64 y, .int .i64 t] 31 (0, 0))) := hv; have HBf : Hid (Below w.heap.size w wb) := below_grown HBwa.out HBb (by have := HLX.out; have := HLY.out; have := HL1.out; have := HL2.out; omega) HBwa.out.size; clear HBb hv)
            | (go_at_call 16; refine (swraw wa lo1 hi1 bx l p m y (by omega) t9 hp HXa).mono ?_; rw [HM1.out, HS.out]; rintro e wb ⟨rfl, HXf, HBb⟩; replace HXf : Hid (SwAt wb lo1 hi1 bx l p m1) := HXf; have HYf : Hid (SwAt wb hi1 hi2 by' l p m1) := HYb.out.kept HBb (by intro q e; cases e; have := HLX.out; have := HLY.out; exact ⟨by omega, .inl (by omega)⟩); have HCf : Hid (OwnN wb B0 5 .u8 (.slice ac l cc) l q) := own_keep HCa.out HBb HLc.out (by have := HLX.out; have := HLY.out; have := HL1.out; have := HL2.out; omega); have hv := var_cell HBb HVa.out (by have := HLX.out; have := HLY.out; omega); have d1 := row_cell hv 1 rfl; have d2 := row_cell hv 2 rfl; have d3 := row_cell hv 3 rfl; have HVf : Hid (wb.heap[wr.heap.size]? = some (.cells #[.int .u8 k, .int .i64 x, .int .i64 y, .int .i64 t] 31 (0, 0))) := hv; have HBf : Hid (Below w.heap.size w wb) := below_grown HBwa.out HBb (by have := HLX.out; have := HLY.out; have := HL1.out; have := HL2.out; omega) HBwa.out.size; clear HBb hv)
            | (go_at_call 16; refine (swraw _ lo1 hi1 _ l p m y (by omega) t9 hp (by exact SwAt.keep (b := bx) HX.out (by repeat (first | (with_reducible exact grown_refl _ none) | (with_reducible refine grown_alloc ?_ _) | (with_reducible refine grown_drew ?_))))).mono ?_; rw [HM1.out, HS.out]; rintro e wa ⟨rfl, HXb, HBa⟩; replace HXb : Hid (SwAt wa lo1 hi1 bx l p m1) := HXb; have HYa : Hid (SwAt wa hi1 hi2 by' l p m) := (SwAt.keep (b := by') HY.out (by repeat (first | (with_reducible exact grown_refl _ none) | (with_reducible refine grown_alloc ?_ _) | (with_reducible refine grown_drew ?_)))).kept HBa (by intro q e; cases e; have := HLX.out; have := HLY.out; exact ⟨by omega, .inl (by omega)⟩); have HCa : Hid (OwnN wa B0 5 .u8 (.slice ac l cc) l q) := own_keep (own_none HC.out (by repeat (first | (with_reducible exact grown_refl _ none) | (with_reducible refine grown_alloc ?_ _) | (with_reducible refine grown_drew ?_)))) HBa HLc.out (by have := HLX.out; have := HLY.out; have := HL1.out; have := HL2.out; omega); have hv := var_cell HBa (show (wr.alloc (.cells #[.int .u8 k, .int .i64 x, .int .i64 y, .int .i64 t] 31)).drew.heap[wr.heap.size]? = _ from heap_alloc_new wr _) (by have := HLX.out; have := HLY.out; omega); have o2 := row_cell hv 2 rfl; have HVa : Hid (wa.heap[wr.heap.size]? = some (.cells #[.int .u8 k, .int .i64 x, .int .i64 y, .int .i64 t] 31 (0, 0))) := hv; have HBwa : Hid (Below w.heap.size w wa) := below_grown (below_alloc' HB.out _ HB.out.size).drew HBa (by have := HLX.out; have := HLY.out; have := HL1.out; have := HL2.out; omega) (Nat.le_trans HB.out.size (grown_size (grown_drew (grown_alloc (grown_refl wr none) _)))); clear HBa hv)
            | (go_at_call 16; refine (swraw _ hi1 hi2 _ l p m y (by omega) t9 hp (by exact SwAt.keep (b := by') HY.out (by repeat (first | (with_reducible exact grown_refl _ none) | (with_reducible refine grown_alloc ?_ _) | (with_reducible refine grown_drew ?_))))).mono ?_; rw [HM1.out, HS.out]; rintro e wa ⟨rfl, HYb, HBa⟩; replace HYb : Hid (SwAt wa hi1 hi2 by' l p m1) := HYb; have HXa : Hid (SwAt wa lo1 hi1 bx l p m) := (SwAt.keep (b := bx) HX.out (by repeat (first | (with_reducible exact grown_refl _ none) | (with_reducible refine grown_alloc ?_ _) | (with_reducible refine grown_drew ?_)))).kept HBa (by intro q e; cases e; have := HLX.out; have := HLY.out; exact ⟨by omega, .inr (by omega)⟩); have HCa : Hid (OwnN wa B0 5 .u8 (.slice ac l cc) l q) := own_keep (own_none HC.out (by repeat (first | (with_reducible exact grown_refl _ none) | (with_reducible refine grown_alloc ?_ _) | (with_reducible refine grown_drew ?_)))) HBa HLc.out (by have := HLX.out; have := HLY.out; have := HL1.out; have := HL2.out; omega); have hv := var_cell HBa (show (wr.alloc (.cells #[.int .u8 k, .int .i64 x, .int .i64 y, .int .i64 t] 31)).drew.heap[wr.heap.size]? = _ from heap_alloc_new wr _) (by have := HLX.out; have := HLY.out; omega); have o2 := row_cell hv 2 rfl; have HVa : Hid (wa.heap[wr.heap.size]? = some (.cells #[.int .u8 k, .int .i64 x, .int .i64 y, .int .i64 t] 31 (0, 0))) := hv; have HBwa : Hid (Below w.heap.size w wa) := below_grown (below_alloc' HB.out _ HB.out.size).drew HBa (by have := HLX.out; have := HLY.out; have := HL1.out; have := HL2.out; omega) (Nat.le_trans HB.out.size (grown_size (grown_drew (grown_alloc (grown_refl wr none) _)))); clear HBa hv))
          all_goals (
            go_wp2_with (first
              | (go_at_call 14; refine (swtakeU wd hi1 hi2 by' l p m1 x y t (by omega) t1 hp HG1 HYd).mono ?_; rw [HM2.out]; rintro e we ⟨rfl, HYe, HBe⟩; replace HYe : Hid (SwAt we hi1 hi2 by' l p m2) := HYe; have HXe : Hid (SwAt we lo1 hi1 bx l p m2) := HXd.out.kept HBe (by intro q e; cases e; have := HLX.out; have := HLY.out; exact ⟨by omega, .inr (by omega)⟩); have HCe : Hid (OwnN we B0 5 .u8 (.slice ac l cc) l q) := own_keep HCd.out HBe HLc.out (by have := HLX.out; have := HLY.out; have := HL1.out; have := HL2.out; omega); have HBwe : Hid (Below w.heap.size w we) := below_grown HBwd.out HBe (by have := HLX.out; have := HLY.out; have := HL1.out; have := HL2.out; omega) HBwd.out.size; clear HBe)
              | (go_at_call 14; refine (swtakeU wb lo1 hi1 bx l p m1 x y t (by omega) t1 hp HG1 HXf).mono ?_; rw [HM2.out]; rintro e wd ⟨rfl, HXd, HBd⟩; replace HXd : Hid (SwAt wd lo1 hi1 bx l p m2) := HXd; have HYd : Hid (SwAt wd hi1 hi2 by' l p m1) := HYf.out.kept HBd (by intro q e; cases e; have := HLX.out; have := HLY.out; exact ⟨by omega, .inl (by omega)⟩); have HCd : Hid (OwnN wd B0 5 .u8 (.slice ac l cc) l q) := own_keep HCf.out HBd HLc.out (by have := HLX.out; have := HLY.out; have := HL1.out; have := HL2.out; omega); have hv := var_cell HBd HVf.out (by have := HLX.out; have := HLY.out; omega); have f1 := row_cell hv 1 rfl; have f2 := row_cell hv 2 rfl; have f3 := row_cell hv 3 rfl; have HBwd : Hid (Below w.heap.size w wd) := below_grown HBf.out HBd (by have := HLX.out; have := HLY.out; have := HL1.out; have := HL2.out; omega) HBf.out.size; clear HBd hv))
            go_roundw
            case rel => exact ⟨j + 1, m2, by omega, by go_num, HG2, HK.out.1, HK.out.2, HXe, HYe, HCe, HBwe⟩
            case measure => simp [intOf]; omega)
        · have e : j = n := by omega
          subst e
          clear hlt
          have t2 : m.tk ≤ 900000 := by omega
          have t3 : m.nb ≤ 900000 := by omega
          have v0 : ∀ a, Sem.run Tryd.prog (convert 22 9 (.slice ac l cc)) (wr.drewN a) = .ok (.string st) (wr.drewN a) := fun a => by
            rw [← HST.out]; exact ints_str (own_none HC.out (grown_dN _ _)).ints
          have v1 : Sem.run Tryd.prog (convert 22 9 (.slice ac l cc)) wr.drew.drew = .ok (.string st) wr.drew.drew := v0 2
          clear v0
          go_wp2_with (first
            | (go_at_call 18; refine (swleft _ lo1 hi1 _ l p m (by omega) t2 t3 (by exact SwAt.keep (b := bx) HX.out (by repeat (first | (with_reducible exact grown_refl _ none) | (with_reducible refine grown_alloc ?_ _) | (with_reducible refine grown_drew ?_))))).mono ?_; rintro e w5 ⟨rfl, rfl⟩)
            | (go_at_call 18; refine (swleft _ hi1 hi2 _ l p m (by omega) t2 t3 (by exact SwAt.keep (b := by') HY.out (by repeat (first | (with_reducible exact grown_refl _ none) | (with_reducible refine grown_alloc ?_ _) | (with_reducible refine grown_drew ?_))))).mono ?_; rintro e w5 ⟨rfl, rfl⟩)
            | (go_at_call 20; refine (swrng _ lo1 hi1 _ l p m (by exact SwAt.keep (b := bx) HX.out (by repeat (first | (with_reducible exact grown_refl _ none) | (with_reducible refine grown_alloc ?_ _) | (with_reducible refine grown_drew ?_))))).mono ?_; rintro e w5 ⟨rfl, rfl⟩)
            | (go_at_call 20; refine (swrng _ hi1 hi2 _ l p m (by exact SwAt.keep (b := by') HY.out (by repeat (first | (with_reducible exact grown_refl _ none) | (with_reducible refine grown_alloc ?_ _) | (with_reducible refine grown_drew ?_))))).mono ?_; rintro e w5 ⟨rfl, rfl⟩))
          go_ret
          exact ⟨rfl, by repeat (first | exact HB.out | refine Below.drew ?_)⟩

end Go.Proofs.YtiejdlapgppbkaaDoor
