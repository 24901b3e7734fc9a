/-
  The law WriterPlays of layer 6 as a walk: it returns true, and nothing that was there has turned.
-/
import Derived.Test.YtbllenfeleiacaaWriterPacket
import Derived.Test.YtbllenfeleiacaaWriterFits
namespace Go.Proofs.Ytbllenfeleiacaa
set_option linter.unusedVariables false
open Go.ChangeShapes Go.WideShapes Go.ChangeAt Go.RowKit

theorem plays_long (s : Int) (ao : Option Addr) (n cap : Nat) (w : World) (hn : 200 < n) :
    Calls Try.prog 3 #[.int .i64 s, .slice ao n cap] w fun e w' => e = .returned (.bool true) ∧ Below w.heap.size w w' := by
  have hn' : (200 : Int) < (n : Int) := by omega
  go_enter Try.func3, Try.ntmps3
  go_wp2_with (go_at_call 7; refine (awake_any _).mono ?_; rintro e W0 ⟨rfl, hB0⟩)
  go_ret
  exact ⟨rfl, hB0⟩

theorem plays_bad (s : Int) (hs : ¬ (4 ≤ s ∧ s ≤ 1275)) (ao : Option Addr) (n cap : Nat) (w : World) (hn : n ≤ 200) :
    Calls Try.prog 3 #[.int .i64 s, .slice ao n cap] w fun e w' => e = .returned (.bool true) ∧ Below w.heap.size w w' := by
  have hn' : (n : Int) ≤ 200 := by omega
  have HS : Hid _ := hs
  have hs' : s < 4 ∨ (¬ s < 4 ∧ 1275 < s) := by omega
  clear hs
  rcases hs' with hs | ⟨hs1, hs⟩
  · go_enter Try.func3, Try.ntmps3
    go_wp2_with (first
      | (go_at_call 7; refine (awake_any _).mono ?_; rintro e W0 ⟨rfl, hB0⟩)
      | (go_at_call 8; refine (new_bad _ s HS.out).mono ?_; rintro e w1 ⟨rfl, rfl⟩))
    go_ret
    exact ⟨rfl, hB0⟩
  · go_enter Try.func3, Try.ntmps3
    go_wp2_with (first
      | (go_at_call 7; refine (awake_any _).mono ?_; rintro e W0 ⟨rfl, hB0⟩)
      | (go_at_call 8; refine (new_bad _ s HS.out).mono ?_; rintro e w1 ⟨rfl, rfl⟩))
    go_ret
    exact ⟨rfl, hB0⟩

theorem rf_rng {w : World} {B b z : Nat} {m : Mo} (h : RfAt w B b z m) : w.cell? ⟨b, 1, none⟩ = some (.int .i64 m.rng) := by
  obtain ⟨vD, vR, h⟩ := h
  exact h.c1
theorem drew_ex2 (w : World) (q a : Nat) : ∃ n, (w.drewN (q + a)).drew = w.drewN (q + n) := ⟨a + 1, rfl⟩
theorem drew_ex (w : World) (a : Nat) : ∃ n, (w.drewN a).drew = w.drewN n := ⟨a + 1, rfl⟩
theorem grown_drewN (w : World) (n : Nat) (row : Option Nat) : w.grownBy (w.drewN n) row := ⟨rfl, rfl, rfl, Nat.le_refl _, fun _ _ _ => rfl⟩

theorem wr_under {w w' : World} {b z B : Nat} {m : Mo} (h : WrAt w b z m) (hb : Below B w w') (hlt : b < B) : WrAt w' b z m := by
  obtain ⟨low, f, h1, h2⟩ := h
  have hb' : w'.heap[b]? = w.heap[b]? := hb.block b hlt
  have hc : ∀ o, w'.cell? ⟨b, o, none⟩ = w.cell? ⟨b, o, none⟩ := fun o => World.cell?_of_block (a := ⟨b, o, none⟩) hb'
  exact ⟨low, f, h1, (hc _).trans h2.c0, (hc _).trans h2.c1, (hc _).trans h2.c2, (hc _).trans h2.c3, (hc _).trans h2.c4, fun i hi => (hc _).trans (h2.ck i hi), fun o => (World.frozen?_of_block (a := ⟨b, o, none⟩) hb').trans (h2.fz o)⟩

set_option maxRecDepth 20000 in
set_option maxHeartbeats 2000000 in
theorem plays_any (z : Nat) (z0 : 4 ≤ z) (z1 : z ≤ 1275) (ao : Option Addr) (n cap : Nat) (f : Nat → Opv) (w : World) (hn : n ≤ 200) (hf : Hid (OpsAt w ao n f)) :
    Calls Try.prog 3 #[.int .i64 z, .slice ao n cap] w fun e w' => e = .returned (.bool true) ∧ Below w.heap.size w w' := by
  have hn' : (n : Int) ≤ 200 := by omega
  have zi0 : (4 : Int) ≤ z := by omega
  have zi1 : (z : Int) ≤ 1275 := by omega
  go_enter Try.func3, Try.ntmps3
  go_wp2_with (first
    | (go_at_call 7; refine (awake_any _).mono ?_; rintro e W0 ⟨rfl, HB0⟩; replace HB0 : Hid (Below w.heap.size w W0) := HB0)
    | (go_at_call 8; refine (new_any W0 z z0 z1).mono ?_; rintro e w1 ⟨rfl, HW1, HB1⟩; replace HW1 : Hid (WrAt w1 W0.heap.size z Mo.new) := HW1; replace HB1 : Hid (Below W0.heap.size W0 w1) := HB1)
    | (go_at_call 9; refine (rnew_any w1 z zi1).mono ?_; rintro e w2 ⟨bx, rfl, HX2, HB2⟩; replace HX2 : Hid (RfAt w2 w1.heap.size bx z Mo.new) := HX2; replace HB2 : Hid (Below w1.heap.size w1 w2) := HB2))
  have HS : Hid (w.heap.size ≤ W0.heap.size) := HB0.out.size
  have HAB : Hid (W0.heap.size < w1.heap.size) := HW1.out.lt
  have HVA : Hid (WrAt w2 W0.heap.size z Mo.new) := HW1.out.kept (grown_below HB2.out none) (by simp)
  have HBW : Hid (Below w.heap.size w w2) := (HB0.out.trans (HB1.out.mono HB0.out.size)).trans (HB2.out.mono (Nat.le_trans HB0.out.size HB1.out.size))
  generalize hba : W0.heap.size = ba at *
  generalize hbb : w1.heap.size = B at *
  have HSA : Hid (w.heap.size ≤ ba) := HS
  clear HS
  go_loopw [46] (fun i wr => ∃ (j : Nat) (m : Mo), j ≤ n ∧ i = .int .i64 j ∧ Hid m.Good ∧ m.nD ≤ 3 + 2 * j ∧ m.nR ≤ 16 * j ∧ Hid (WrAt wr ba z m) ∧ Hid (RfAt wr B bx z m) ∧ Hid (Below w.heap.size w wr)) (fun i _ => n - (intOf i).toNat)
  case atStart => exact ⟨0, Mo.new, by omega, rfl, new_ok, by decide, by decide, HVA.out, HX2.out, HBW.out⟩
  case round =>
    obtain ⟨j, m, hj, rfl, HG, n1, n2, HW, HX, HB⟩ := hrel
    have hlta := HW.out.lt
    have hltx := HX.out.lt
    by_cases hlt : j < n
    · have hlt' : (j : Int) < n := by omega
      obtain ⟨bo, off, rfl, c0, c1, c2, c3, c4, ho⟩ := (hf.out.below HB.out) j hlt
      generalize f j = o at *
      obtain ⟨kk, x, y, t, u⟩ := o
      simp only at c0 c1 c2 c3 c4
      obtain ⟨kk0, kk1, u0, u1⟩ : 0 ≤ kk ∧ kk ≤ 255 ∧ 0 ≤ u ∧ u < 4294967296 := ⟨ho.k0, ho.k1, ho.x0, ho.x1⟩
      clear ho
      have nm : m.nD ≤ 600000 := by omega
      have nk : m.nR ≤ 600000 := by omega
      have e3 : Int.tmod kk 2 = kk % 2 := Int.tmod_eq_emod_of_nonneg kk0
      have HBA : Hid (Below w.heap.size w (wr.alloc (.cells #[.int .u8 kk, .int .i64 x, .int .i64 y, .int .i64 t, .int .u32 u] 32))) := HB.out.alloc HB.out.size _
      by_cases hk2 : kk % 2 = 0
      · by_cases hm : 0 ≤ x ∧ x < y ∧ y ≤ t ∧ t ≤ 4096
        · have HM : Hid _ := hm
          have hn2 := put_nD m x y t
          have hr2 := (put_nR m x y t).1
          have HG2 : Hid (m.put x y t).Good := put_ok HG.out hm
          have HDM : Hid (true = decide (0 ≤ x ∧ x < y ∧ y ≤ t ∧ t ≤ 4096)) := by show _ = _; simp [hm]
          have HE : Hid (putE x y t = 0) := if_pos hm
          have HU : m.putU x y t = m.put x y t := if_pos hm
          clear hm
          obtain ⟨m2, hm2⟩ : ∃ m2, m.put x y t = m2 := ⟨_, rfl⟩
          rw [hm2] at hn2 hr2 HG2 HU
          have HP2 : Hid _ := hm2
          have HM2 : Hid _ := HU
          clear hm2 HU
          have nm2 : m2.nD ≤ 700000 := by omega
          have nk2 : m2.nR ≤ 700000 := by omega
          go_wp2_with (first
            | (go_at_call 10; refine (put_un _ ba z m x y t z1 nm nk HG (show WrAt _ _ z m from WrAt.kept (row := none) HW.out (by repeat (first | (with_reducible exact grown_refl _ none) | (with_reducible refine grown_alloc ?_ _) | (with_reducible refine grown_drew ?_))) (by simp))).mono ?_; rw [HE.out, HM2.out]; rintro e wa ⟨rfl, HWa, HBa⟩; replace HWa : Hid (WrAt wa ba z m2) := HWa; have hcs := var_cell HBa (heap_alloc_new _ _) (by omega); have d1 := row_cell hcs 1 rfl; have d2 := row_cell hcs 2 rfl; have d3 := row_cell hcs 3 rfl; clear hcs; have HXa : Hid (RfAt wa B bx z m) := (RfAt.kept HX.out (grown_alloc (grown_refl _ none) _) (by intro q e; cases e)).kept HBa (by intro q e; cases e; exact HAB.out); have HBw0 : Hid (Below w.heap.size w wa) := below_grown HBA.out HBa HSA.out HBA.out.size; replace HBa : Hid _ := HBa)
            | (go_at_call 11; refine (may_any _ x y t true HDM).mono ?_; rintro e w5 ⟨rfl, rfl⟩)
            | (go_at_call 12; refine (rput_any _ B bx z m x y t nm nk HG HM HXa).mono ?_; rw [HP2.out]; rintro e wb ⟨rfl, HXb, HBb⟩; replace HXb : Hid (RfAt wb B bx z m2) := HXb; have HWb : Hid (WrAt wb ba z m2) := wr_under HWa.out HBb HAB.out; have HBw : Hid (Below w.heap.size w wb) := HBw0.out.trans (HBb.mono (by have := HAB.out; have := HSA.out; omega)); replace HBb : Hid _ := HBb))
          have cx := rf_rng HXb.out
          have r1 := HG2.out.r1
          have r2 := HG2.out.r2
          go_quiet (first
            | (go_at_call 15; refine (left_wr _ _ z m2 z1 nm2 nk2 (WrAt.kept (row := none) HWb.out (grown_drewN _ _ _) (by simp))).mono ?_; rintro e w5 ⟨rfl, rfl⟩; exact ⟨rfl, drew_ex _ _⟩)
            | (go_at_call 17; refine (rng_wr _ _ z m2 (WrAt.kept (row := none) HWb.out (grown_drewN _ _ _) (by simp))).mono ?_; rintro e w5 ⟨rfl, rfl⟩; exact ⟨rfl, _, rfl⟩)
            | (go_at_call 16; refine (rleft_any _ B _ z m2 z1 nm2 nk2 (RfAt.kept (row := none) HXb.out (grown_drewN _ _ _) (by intro q e; cases e))).mono ?_; rintro e w5 ⟨rfl, rfl⟩; exact ⟨rfl, drew_ex _ _⟩))
          go_wp2
          go_roundw
          case rel => exact ⟨j + 1, m2, by omega, by go_num, HG2, by omega, by omega, HWb.out.kept (grown_drewN _ _ none) (by simp), HXb.out.kept (grown_drewN _ _ none) (by intro q e; cases e), below_drewN HBw.out _⟩
          case measure => simp [intOf]; omega
        · have HG2 := HG
          have HDM : Hid (false = decide (0 ≤ x ∧ x < y ∧ y ≤ t ∧ t ≤ 4096)) := by show _ = _; simp only [hm, decide_false]
          have HE : Hid (putE x y t = 1) := if_neg hm
          have HM2 : Hid (m.putU x y t = m) := if_neg hm
          clear hm
          have nm2 : m.nD ≤ 700000 := by omega
          have nk2 : m.nR ≤ 700000 := by omega
          go_wp2_with (first
            | (go_at_call 10; refine (put_un _ ba z m x y t z1 nm nk HG (show WrAt _ _ z m from WrAt.kept (row := none) HW.out (by repeat (first | (with_reducible exact grown_refl _ none) | (with_reducible refine grown_alloc ?_ _) | (with_reducible refine grown_drew ?_))) (by simp))).mono ?_; rw [HE.out, HM2.out]; rintro e wa ⟨rfl, HWa, HBa⟩; replace HWa : Hid (WrAt wa ba z m) := HWa; have hcs := var_cell HBa (heap_alloc_new _ _) (by omega); have d1 := row_cell hcs 1 rfl; have d2 := row_cell hcs 2 rfl; have d3 := row_cell hcs 3 rfl; clear hcs; have HXa : Hid (RfAt wa B bx z m) := (RfAt.kept HX.out (grown_alloc (grown_refl _ none) _) (by intro q e; cases e)).kept HBa (by intro q e; cases e; exact HAB.out); have HBw0 : Hid (Below w.heap.size w wa) := below_grown HBA.out HBa HSA.out HBA.out.size; replace HBa : Hid _ := HBa)
            | (go_at_call 11; refine (may_any _ x y t false HDM).mono ?_; rintro e w5 ⟨rfl, rfl⟩))
          have HWb := HWa
          have HXb := HXa
          have HBw := HBw0
          have cx := rf_rng HXb.out
          have r1 := HG2.out.r1
          have r2 := HG2.out.r2
          go_quiet (first
            | (go_at_call 15; refine (left_wr _ _ z m z1 nm2 nk2 (WrAt.kept (row := none) HWb.out (grown_drewN _ _ _) (by simp))).mono ?_; rintro e w5 ⟨rfl, rfl⟩; exact ⟨rfl, drew_ex _ _⟩)
            | (go_at_call 17; refine (rng_wr _ _ z m (WrAt.kept (row := none) HWb.out (grown_drewN _ _ _) (by simp))).mono ?_; rintro e w5 ⟨rfl, rfl⟩; exact ⟨rfl, _, rfl⟩)
            | (go_at_call 16; refine (rleft_any _ B _ z m z1 nm2 nk2 (RfAt.kept (row := none) HXb.out (grown_drewN _ _ _) (by intro q e; cases e))).mono ?_; rintro e w5 ⟨rfl, rfl⟩; exact ⟨rfl, drew_ex _ _⟩))
          go_wp2
          go_roundw
          case rel => exact ⟨j + 1, m, by omega, by go_num, HG2, by omega, by omega, HWb.out.kept (grown_drewN _ _ none) (by simp), HXb.out.kept (grown_drewN _ _ none) (by intro q e; cases e), below_drewN HBw.out _⟩
          case measure => simp [intOf]; omega
      · by_cases hm : 0 ≤ y ∧ y ≤ 16 ∧ u < 2 ^ y.toNat
        · have HE : Hid (rawE u y = 0) := if_pos hm
          have HU : m.rawU u y = Mo.raw y.toNat u m := if_pos hm
          obtain ⟨l, rfl⟩ : ∃ l : Nat, y = l := ⟨y.toNat, by omega⟩
          rw [Int.toNat_natCast] at hm HU
          have hl16 : l ≤ 16 := by omega
          have hl16' : (l : Int) ≤ 16 := by omega
          have hu2 : u < 2 ^ l := hm.2.2
          have hp16 : (2 : Int) ^ l ≤ 65536 := by
            match l, hl16 with
            | 0, _ | 1, _ | 2, _ | 3, _ | 4, _ | 5, _ | 6, _ | 7, _ | 8, _ | 9, _ | 10, _ | 11, _ | 12, _ | 13, _ | 14, _ | 15, _ | 16, _ => decide
          have hp0 : (0 : Int) < 2 ^ l := Int.pow_pos (by decide)
          have hn2 := raw_nR l u m
          have HG2 : Hid (Mo.raw l u m).Good := raw_good HG.out l u
          obtain ⟨m2, hm2⟩ : ∃ m2, Mo.raw l u m = m2 := ⟨_, rfl⟩
          rw [hm2] at hn2 HG2 HU
          have HP2 : Hid _ := hm2
          have HM2 : Hid _ := HU
          clear hm2 HU hm
          obtain ⟨hn3, hn4, -, -⟩ := hn2
          have nm2 : m2.nD ≤ 700000 := by omega
          have nk2 : m2.nR ≤ 700000 := by omega
          have HN3 : Hid (m2.nR = m.nR + l ∧ m2.nD = m.nD) := ⟨hn3, hn4⟩
          clear hn3 hn4
          go_wp2_with (go_at_call 13; refine (raw_un _ ba z m u l z1 nm nk u0 u1 (show WrAt _ _ z m from WrAt.kept (row := none) HW.out (by repeat (first | (with_reducible exact grown_refl _ none) | (with_reducible refine grown_alloc ?_ _) | (with_reducible refine grown_drew ?_))) (by simp))).mono ?_; rw [HE.out, HM2.out]; rintro e wa ⟨rfl, HWa, HBa⟩; replace HWa : Hid (WrAt wa ba z m2) := HWa; have hcs := var_cell HBa (heap_alloc_new _ _) (by omega); have d2 := row_cell hcs 2 rfl; have d4 := row_cell hcs 4 rfl; clear hcs; have HXa : Hid (RfAt wa B bx z m) := (RfAt.kept HX.out (grown_alloc (grown_refl _ none) _) (by intro q e; cases e)).kept HBa (by intro q e; cases e; exact HAB.out); have HBw0 : Hid (Below w.heap.size w wa) := below_grown HBA.out HBa HSA.out HBA.out.size; replace HBa : Hid _ := HBa)
          have hsh : IntKind.i64.wrap (1 * 2 ^ l) = 2 ^ l := by rw [Int.one_mul]; exact wrap_add (by omega) (by omega)
          have hsh2 : IntKind.i64.wrap (2 ^ l) = 2 ^ l := wrap_add (by omega) (by omega)
          have hu3 : IntKind.i64.wrap u = u := wrap_add (by omega) (by omega)
          have hl0 : ¬ ((l : Int) < 0) := by omega
          go_quiet (fail)
          go_wp2_with (go_at_call 14; refine (rraw_any _ B bx z m u l hl16 nm nk u0 u1 (RfAt.kept (row := none) HXa.out (grown_drewN _ _ _) (by intro q e; cases e))).mono ?_; rw [HP2.out]; rintro e wb ⟨rfl, HXb, HBb⟩; replace HXb : Hid (RfAt wb B bx z m2) := HXb; have HWb : Hid (WrAt wb ba z m2) := wr_under (HWa.out.kept (grown_drewN _ nq none) (by simp)) HBb HAB.out; have HBw : Hid (Below w.heap.size w wb) := (below_drewN HBw0.out nq).trans (HBb.mono (by have := HAB.out; have := HSA.out; omega)); replace HBb : Hid _ := HBb)
          have cx := rf_rng HXb.out
          have r1 := HG2.out.r1
          have r2 := HG2.out.r2
          go_quiet (first
            | (go_at_call 15; refine (left_wr _ _ z m2 z1 nm2 nk2 (WrAt.kept (row := none) HWb.out (grown_drewN _ _ _) (by simp))).mono ?_; rintro e w5 ⟨rfl, rfl⟩; exact ⟨rfl, drew_ex _ _⟩)
            | (go_at_call 17; refine (rng_wr _ _ z m2 (WrAt.kept (row := none) HWb.out (grown_drewN _ _ _) (by simp))).mono ?_; rintro e w5 ⟨rfl, rfl⟩; exact ⟨rfl, _, rfl⟩)
            | (go_at_call 16; refine (rleft_any _ B _ z m2 z1 nm2 nk2 (RfAt.kept (row := none) HXb.out (grown_drewN _ _ _) (by intro q e; cases e))).mono ?_; rintro e w5 ⟨rfl, rfl⟩; exact ⟨rfl, drew_ex _ _⟩))
          go_wp2
          go_roundw
          case rel => exact ⟨j + 1, m2, by omega, by go_num, HG2, by have := HN3.out; omega, by have := HN3.out; omega, HWb.out.kept (grown_drewN _ _ none) (by simp), HXb.out.kept (grown_drewN _ _ none) (by intro q e; cases e), below_drewN HBw.out _⟩
          case measure => simp [intOf]; omega
        · have HE : Hid (rawE u y = 1) := if_neg hm
          have HM2 : Hid (m.rawU u y = m) := if_neg hm
          have HG2 := HG
          have nm2 : m.nD ≤ 700000 := by omega
          have nk2 : m.nR ≤ 700000 := by omega
          have hu3 : IntKind.i64.wrap u = u := wrap_add (by omega) (by omega)
          have hcase : y < 0 ∨ (¬ y < 0 ∧ 16 < y) ∨ ∃ l : Nat, y = l ∧ l ≤ 16 ∧ (2 : Int) ^ l ≤ u := by
            by_cases h1 : y < 0
            · exact .inl h1
            · by_cases h2 : 16 < y
              · exact .inr (.inl ⟨h1, h2⟩)
              · refine .inr (.inr ⟨y.toNat, by omega, by omega, ?_⟩)
                have : ¬ u < 2 ^ y.toNat := fun h => hm ⟨by omega, by omega, h⟩
                omega
          clear hm
          rcases hcase with h1 | ⟨h1, h2⟩ | ⟨l, rfl, hl16, hu2⟩
          · go_wp2_with (go_at_call 13; refine (raw_un _ ba z m u y z1 nm nk u0 u1 (show WrAt _ _ z m from WrAt.kept (row := none) HW.out (by repeat (first | (with_reducible exact grown_refl _ none) | (with_reducible refine grown_alloc ?_ _) | (with_reducible refine grown_drew ?_))) (by simp))).mono ?_; rw [HE.out, HM2.out]; rintro e wa ⟨rfl, HWa, HBa⟩; replace HWa : Hid (WrAt wa ba z m) := HWa; have hcs := var_cell HBa (heap_alloc_new _ _) (by omega); have d2 := row_cell hcs 2 rfl; have d4 := row_cell hcs 4 rfl; clear hcs; have HXa : Hid (RfAt wa B bx z m) := (RfAt.kept HX.out (grown_alloc (grown_refl _ none) _) (by intro q e; cases e)).kept HBa (by intro q e; cases e; exact HAB.out); have HBw0 : Hid (Below w.heap.size w wa) := below_grown HBA.out HBa HSA.out HBA.out.size; replace HBa : Hid _ := HBa)
            have hd1 : decide (0 ≤ y) = false := by simp; omega
            have HWb := HWa
            have HXb := HXa
            have HBw := HBw0
            go_quiet (fail)
            go_wp2
            have cx := rf_rng HXb.out
            have r1 := HG2.out.r1
            have r2 := HG2.out.r2
            go_quiet (first
              | (go_at_call 15; refine (left_wr _ _ z m z1 nm2 nk2 (WrAt.kept (row := none) HWb.out (grown_drewN _ _ _) (by simp))).mono ?_; rintro e w5 ⟨rfl, rfl⟩; exact ⟨rfl, drew_ex2 _ _ _⟩)
              | (go_at_call 17; refine (rng_wr _ _ z m (WrAt.kept (row := none) HWb.out (grown_drewN _ _ _) (by simp))).mono ?_; rintro e w5 ⟨rfl, rfl⟩; exact ⟨rfl, _, rfl⟩)
              | (go_at_call 16; refine (rleft_any _ B _ z m z1 nm2 nk2 (RfAt.kept (row := none) HXb.out (grown_drewN _ _ _) (by intro q e; cases e))).mono ?_; rintro e w5 ⟨rfl, rfl⟩; exact ⟨rfl, drew_ex2 _ _ _⟩))
            go_wp2
            go_roundw
            case rel => exact ⟨j + 1, m, by omega, by go_num, HG2, by omega, by omega, HWb.out.kept (grown_drewN _ _ none) (by simp), HXb.out.kept (grown_drewN _ _ none) (by intro q e; cases e), below_drewN HBw.out _⟩
            case measure => simp [intOf]; omega
          · go_wp2_with (go_at_call 13; refine (raw_un _ ba z m u y z1 nm nk u0 u1 (show WrAt _ _ z m from WrAt.kept (row := none) HW.out (by repeat (first | (with_reducible exact grown_refl _ none) | (with_reducible refine grown_alloc ?_ _) | (with_reducible refine grown_drew ?_))) (by simp))).mono ?_; rw [HE.out, HM2.out]; rintro e wa ⟨rfl, HWa, HBa⟩; replace HWa : Hid (WrAt wa ba z m) := HWa; have hcs := var_cell HBa (heap_alloc_new _ _) (by omega); have d2 := row_cell hcs 2 rfl; have d4 := row_cell hcs 4 rfl; clear hcs; have HXa : Hid (RfAt wa B bx z m) := (RfAt.kept HX.out (grown_alloc (grown_refl _ none) _) (by intro q e; cases e)).kept HBa (by intro q e; cases e; exact HAB.out); have HBw0 : Hid (Below w.heap.size w wa) := below_grown HBA.out HBa HSA.out HBA.out.size; replace HBa : Hid _ := HBa)
            have hd0 : 0 ≤ y := by omega
            have hd1 : decide (y ≤ 16) = false := by simp; omega
            have HWb := HWa
            have HXb := HXa
            have HBw := HBw0
            go_quiet (fail)
            go_wp2
            have cx := rf_rng HXb.out
            have r1 := HG2.out.r1
            have r2 := HG2.out.r2
            go_quiet (first
              | (go_at_call 15; refine (left_wr _ _ z m z1 nm2 nk2 (WrAt.kept (row := none) HWb.out (grown_drewN _ _ _) (by simp))).mono ?_; rintro e w5 ⟨rfl, rfl⟩; exact ⟨rfl, drew_ex2 _ _ _⟩)
              | (go_at_call 17; refine (rng_wr _ _ z m (WrAt.kept (row := none) HWb.out (grown_drewN _ _ _) (by simp))).mono ?_; rintro e w5 ⟨rfl, rfl⟩; exact ⟨rfl, _, rfl⟩)
              | (go_at_call 16; refine (rleft_any _ B _ z m z1 nm2 nk2 (RfAt.kept (row := none) HXb.out (grown_drewN _ _ _) (by intro q e; cases e))).mono ?_; rintro e w5 ⟨rfl, rfl⟩; exact ⟨rfl, drew_ex2 _ _ _⟩))
            go_wp2
            go_roundw
            case rel => exact ⟨j + 1, m, by omega, by go_num, HG2, by omega, by omega, HWb.out.kept (grown_drewN _ _ none) (by simp), HXb.out.kept (grown_drewN _ _ none) (by intro q e; cases e), below_drewN HBw.out _⟩
            case measure => simp [intOf]; omega
          · have hl16' : (l : Int) ≤ 16 := by omega
            have hl0 : ¬ ((l : Int) < 0) := by omega
            have hp16 : (2 : Int) ^ l ≤ 65536 := by
              match l, hl16 with
              | 0, _ | 1, _ | 2, _ | 3, _ | 4, _ | 5, _ | 6, _ | 7, _ | 8, _ | 9, _ | 10, _ | 11, _ | 12, _ | 13, _ | 14, _ | 15, _ | 16, _ => decide
            have hp0 : (0 : Int) < 2 ^ l := Int.pow_pos (by decide)
            have hsh2 : IntKind.i64.wrap (2 ^ l) = 2 ^ l := wrap_add (by omega) (by omega)
            go_wp2_with (go_at_call 13; refine (raw_un _ ba z m u l z1 nm nk u0 u1 (show WrAt _ _ z m from WrAt.kept (row := none) HW.out (by repeat (first | (with_reducible exact grown_refl _ none) | (with_reducible refine grown_alloc ?_ _) | (with_reducible refine grown_drew ?_))) (by simp))).mono ?_; rw [HE.out, HM2.out]; rintro e wa ⟨rfl, HWa, HBa⟩; replace HWa : Hid (WrAt wa ba z m) := HWa; have hcs := var_cell HBa (heap_alloc_new _ _) (by omega); have d2 := row_cell hcs 2 rfl; have d4 := row_cell hcs 4 rfl; clear hcs; have HXa : Hid (RfAt wa B bx z m) := (RfAt.kept HX.out (grown_alloc (grown_refl _ none) _) (by intro q e; cases e)).kept HBa (by intro q e; cases e; exact HAB.out); have HBw0 : Hid (Below w.heap.size w wa) := below_grown HBA.out HBa HSA.out HBA.out.size; replace HBa : Hid _ := HBa)
            have hd1 : decide (u < 2 ^ l) = false := by simp; omega
            have HWb := HWa
            have HXb := HXa
            have HBw := HBw0
            go_quiet (fail)
            go_wp2
            have cx := rf_rng HXb.out
            have r1 := HG2.out.r1
            have r2 := HG2.out.r2
            go_quiet (first
              | (go_at_call 15; refine (left_wr _ _ z m z1 nm2 nk2 (WrAt.kept (row := none) HWb.out (grown_drewN _ _ _) (by simp))).mono ?_; rintro e w5 ⟨rfl, rfl⟩; exact ⟨rfl, drew_ex2 _ _ _⟩)
              | (go_at_call 17; refine (rng_wr _ _ z m (WrAt.kept (row := none) HWb.out (grown_drewN _ _ _) (by simp))).mono ?_; rintro e w5 ⟨rfl, rfl⟩; exact ⟨rfl, _, rfl⟩)
              | (go_at_call 16; refine (rleft_any _ B _ z m z1 nm2 nk2 (RfAt.kept (row := none) HXb.out (grown_drewN _ _ _) (by intro q e; cases e))).mono ?_; rintro e w5 ⟨rfl, rfl⟩; exact ⟨rfl, drew_ex2 _ _ _⟩))
            go_wp2
            go_roundw
            case rel => exact ⟨j + 1, m, by omega, by go_num, HG2, by omega, by omega, HWb.out.kept (grown_drewN _ _ none) (by simp), HXb.out.kept (grown_drewN _ _ none) (by intro q e; cases e), below_drewN HBw.out _⟩
            case measure => simp [intOf]; omega
    · have e : j = n := by omega
      subst e
      clear hlt
      have nm : m.nD ≤ 700000 := by omega
      have nk : m.nR ≤ 700000 := by omega
      by_cases hl : 0 ≤ m.left z
      · have HOK : Hid m.Ok := HG.out.ok
        have HL : Hid _ := hl
        have hl' : ¬ (m.left z < 0) := by omega
        go_wp2_with (first
          | (go_at_call 18; refine (done_wr wr ba z m z0 z1 nk hl HW).mono ?_; rintro e w3 ⟨g1, rfl, hg1, HP1, HB3⟩; have HX3 : Hid (RfAt w3 B bx z m) := HX.out.kept (grown_below HB3 none) (by intro q e; cases e); replace HP1 : Hid (BytesAt w3 g1 z (m.pk z)) := HP1; replace HB3 : Hid (Below wr.heap.size wr w3) := HB3)
          | (go_at_call 16; refine (rleft_any _ B _ z m z1 nm nk HX3).mono ?_; rintro e w5 ⟨rfl, rfl⟩)
          | (go_at_call 20; refine (packet_any _ B bx z m z1 nm nk HOK (RfAt.kept (row := none) HX3.out (grown_drew (grown_refl _ none)) (by intro q e; cases e))).mono ?_; rintro e w4 ⟨vp, rfl, HV, HB4⟩; have HP4 : Hid (BytesAt w4 g1 z (m.pk z)) := HP1.out.kept (HB4.block g1 HP1.out.lt); replace HV : Hid _ := HV; replace HB4 : Hid (Below w3.heap.size w3 w4) := ⟨HB4.os, HB4.tape, HB4.output, HB4.size, HB4.block⟩)
          | (go_at_call 19; refine (same_any _ g1 z z (m.pk z) (m.pk z) vp _ z1 HP4 (fun i hi => pk_bd HOK.out HL.out hi) HV (fun _ _ => rfl)).mono ?_; rintro e w5 ⟨rfl, HB5⟩; replace HB5 : Hid (Below w4.heap.size w4 w5) := HB5))
        go_ret
        have s3 := Nat.le_trans HB.out.size HB3.out.size
        have s4 := Nat.le_trans s3 HB4.out.size
        exact ⟨rfl, ((HB.out.trans (HB3.out.mono HB.out.size)).trans (HB4.out.mono s3)).trans (HB5.out.mono s4)⟩
      · have hl' : m.left z < 0 := by omega
        clear hl
        go_wp2_with (first
          | (go_at_call 18; refine (done_full _ _ z m z1 nm nk hl' HW).mono ?_; rintro e w5 ⟨rfl, rfl⟩)
          | (go_at_call 16; refine (rleft_any _ B _ z m z1 nm nk (RfAt.kept (row := none) HX.out (grown_drew (grown_refl _ none)) (by intro q e; cases e))).mono ?_; rintro e w5 ⟨rfl, rfl⟩))
        go_ret
        exact ⟨rfl, by repeat (first | exact HB.out | refine Below.drew ?_)⟩

end Go.Proofs.Ytbllenfeleiacaa
