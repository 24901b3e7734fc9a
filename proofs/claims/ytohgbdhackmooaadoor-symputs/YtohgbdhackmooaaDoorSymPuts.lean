/-
  The law SymPuts of layer 9 as a walk: it returns true, and nothing that was there has turned. The table of package sym lies in memory as the row lists it.
-/
import Derived.Test.YtohgbdhackmooaaDoorSymRef
import Derived.Test.YtohgbdhackmooaaDoorSymAwake
import Derived.Test.YtohgbdhackmooaaDoorSymOpen
import Derived.Test.YtohgbdhackmooaaDoorWriterPacket
namespace Go.Proofs.YtohgbdhackmooaaDoor
set_option linter.unusedVariables false
open Go.ChangeShapes Go.WideShapes Go.ChangeAt Go.RowKit

theorem wr_under {w w' : World} {b z B : Nat} {m : Mo} (h : WrAt w b z m) (hb : Below B w w') (hlt : b < B) : WrAt w' b z m := by
  obtain ⟨low, f, h1, h2⟩ := h
  have hb' : w'.heap[b]? = w.heap[b]? := hb.block b hlt
  have hc : ∀ o, w'.cell? ⟨b, o, none⟩ = w.cell? ⟨b, o, none⟩ := fun o => World.cell?_of_block (a := ⟨b, o, none⟩) hb'
  exact ⟨low, f, h1, (hc _).trans h2.c0, (hc _).trans h2.c1, (hc _).trans h2.c2, (hc _).trans h2.c3, (hc _).trans h2.c4, fun i hi => (hc _).trans (h2.ck i hi), fun o => (World.frozen?_of_block (a := ⟨b, o, none⟩) hb').trans (h2.fz o)⟩
theorem step_good {m : Mo} (h : m.Good) {v : Int} (h1 : -7 ≤ v) (h2 : v ≤ 7) : (m.step v).Good := put_ok h (stI_may h1 h2)

theorem puts_long (s : Int) (ao : Option Addr) (n cap : Nat) (w : World) (hn : 200 < n) :
    Calls Tryd.prog 4 #[.int .u16 s, .slice ao n cap] w fun e w' => e = .returned (.bool true) ∧ Below w.heap.size w w' := by
  have hn' : (200 : Int) < (n : Int) := by omega
  go_enter Tryd.func4, Tryd.ntmps4
  go_wp2_with (go_at_call 6; refine (awake_any9 _).mono ?_; rintro e W0 ⟨rfl, hB0⟩)
  go_ret
  exact ⟨rfl, hB0⟩

set_option maxRecDepth 20000 in
set_option maxHeartbeats 4000000 in
theorem puts_any (s : Int) (s0 : 0 ≤ s) (s1 : s < 65536) (ao : Option Addr) (n cap : Nat) (f : Nat → Ask) (w : World) (hn : n ≤ 200) (hf : Hid (AsksAt w ao n f)) (hd : Hid (Wd w)) :
    Calls Tryd.prog 4 #[.int .u16 s, .slice ao n cap] w fun e w' => e = .returned (.bool true) ∧ Below w.heap.size w w' := by
  have hn' : (n : Int) ≤ 200 := by omega
  have e1 : Int.tmod s 1272 = s % 1272 := Int.tmod_eq_emod_of_nonneg s0
  obtain ⟨z, hz⟩ : ∃ z : Nat, 4 + s % 1272 = z := ⟨(4 + s % 1272).toNat, by omega⟩
  have z0 : 4 ≤ z := by omega
  have z1 : z ≤ 1275 := by omega
  have zi1 : (z : Int) ≤ 1275 := by omega
  go_enter Tryd.func4, Tryd.ntmps4
  go_wp2_with (first
    | (go_at_call 6; refine (awake_any9 _).mono ?_; rintro e W0 ⟨rfl, HB0⟩; replace HB0 : Hid (Below w.heap.size w W0) := HB0)
    | (go_at_call 21; refine (new_any W0 z z0 z1).mono ?_; rintro e w1 ⟨rfl, HW1, HB1⟩; replace HW1 : Hid (WrAt w1 W0.heap.size z Mo.new) := HW1; replace HB1 : Hid (Below W0.heap.size W0 w1) := HB1)
    | (go_at_call 22; refine (rnew_any w1 z zi1).mono ?_; rintro e w2 ⟨bx, rfl, HX2, HB2⟩; replace HX2 : Hid (RfAt w2 w1.heap.size bx z Mo.new) := HX2; replace HB2 : Hid (Below w1.heap.size w1 w2) := HB2))
  have HS : Hid (w.heap.size ≤ W0.heap.size) := HB0.out.size
  have HAB : Hid (W0.heap.size < w1.heap.size) := HW1.out.lt
  have HVA : Hid (WrAt w2 W0.heap.size z Mo.new) := HW1.out.kept (grown_below HB2.out none) (by simp)
  have HBW : Hid (Below w.heap.size w w2) := (HB0.out.trans (HB1.out.mono HB0.out.size)).trans (HB2.out.mono (Nat.le_trans HB0.out.size HB1.out.size))
  generalize hba : W0.heap.size = ba at *
  generalize hbb : w1.heap.size = B at *
  have HSA : Hid (w.heap.size ≤ ba) := HS
  clear HS hz
  go_loopw [39] (fun i wr => ∃ (j : Nat) (m : Mo), j ≤ n ∧ i = .int .i64 j ∧ Hid m.Good ∧ m.nD ≤ 3 + 2 * j ∧ m.nR ≤ 16 * j ∧ Hid (WrAt wr ba z m) ∧ Hid (RfAt wr B bx z m) ∧ Hid (Below w.heap.size w wr)) (fun i _ => n - (intOf i).toNat)
  case atStart => exact ⟨0, Mo.new, by omega, rfl, new_ok, by decide, by decide, HVA.out, HX2.out, HBW.out⟩
  case round =>
    obtain ⟨j, m, hj, rfl, HG, n1, n2, HW, HX, HB⟩ := hrel
    have hlta := HW.out.lt
    have HBr : Hid (B ≤ wr.heap.size) := by obtain ⟨vD, vR, hx⟩ := HX.out; exact hx.sB
    by_cases hlt : j < n
    · have hlt' : (j : Int) < n := by omega
      obtain ⟨bo, off, rfl, c0, c1, ho⟩ := (hf.out.below HB.out) j hlt
      generalize f j = o at *
      obtain ⟨t, v⟩ := o
      simp only at c0 c1
      clear ho
      have nm : m.nD ≤ 500000 := by omega
      have nk : m.nR ≤ 500000 := by omega
      have nm6 : m.nD ≤ 600000 := by omega
      have nk6 : m.nR ≤ 600000 := by omega
      have HBA : Hid (Below w.heap.size w (wr.alloc (.cells #[.int .i64 t, .int .i64 v] 32))) := HB.out.alloc HB.out.size _
      have HDr : Hid (Wd wr) := hd.out.below HB.out
      by_cases ht0 : t = 0
      · subst ht0
        by_cases hv : -7 ≤ v ∧ v ≤ 7
        · obtain ⟨v0, v1⟩ := hv
          have hnn := put_nD m (stF (stI v)) (stF (stI v) + stW (stI v)) 64
          have hnr := (put_nR m (stF (stI v)) (stF (stI v) + stW (stI v)) 64).1
          have HG2 : Hid (m.step v).Good := step_good HG.out v0 v1
          obtain ⟨m2, hm2⟩ : ∃ m2, m.step v = m2 := ⟨_, rfl⟩
          have hm3 : m.put (stF (stI v)) (stF (stI v) + stW (stI v)) 64 = m2 := hm2
          rw [hm3] at hnn hnr
          rw [hm2] at HG2
          have HP2 : Hid (m.step v = m2) := hm2
          clear hm2 hm3
          have nm2 : m2.nD ≤ 700000 := by omega
          have nk2 : m2.nR ≤ 700000 := by omega
          go_wp2_with (first
            | (go_at_call 23; refine (putstep_wr _ ba z m v z1 nm6 nk6 v0 v1 HG (show Wd _ from Wd.kept (row := none) HDr.out (by repeat (first | (with_reducible exact grown_refl _ none) | (with_reducible refine grown_alloc ?_ _) | (with_reducible refine grown_drew ?_))) (by simp)) (show WrAt _ _ z m from WrAt.kept (row := none) HW.out (by repeat (first | (with_reducible exact grown_refl _ none) | (with_reducible refine grown_alloc ?_ _) | (with_reducible refine grown_drew ?_))) (by simp))).mono ?_; rw [HP2.out]; rintro e wa ⟨rfl, HWa, HBa⟩; replace HWa : Hid (WrAt wa ba z m2) := HWa; have hcs := var_cell HBa (heap_alloc_new _ _) (by omega); have d0 := row_cell hcs 0 rfl; have d1 := row_cell hcs 1 rfl; clear hcs; have HXa : Hid (RfAt wa B bx z m) := (RfAt.kept HX.out (grown_alloc (grown_refl _ none) _) (by intro q e; cases e)).kept HBa (by intro q e; cases e; exact HAB.out); have HBw0 : Hid (Below w.heap.size w wa) := below_grown HBA.out HBa HSA.out HBA.out.size; have hBa : Hid (B ≤ wa.heap.size) := Nat.le_trans HBr.out (Nat.le_trans (grown_size (grown_alloc (grown_refl wr none) _)) HBa.size); replace HBa : Hid _ := HBa)
            | (go_at_call 24; refine (rputstep _ B bx z m v nm6 nk6 v0 v1 hBa.out HG HXa).mono ?_; rw [HP2.out]; rintro e wb ⟨rfl, HXb, HBb⟩; replace HXb : Hid (RfAt wb B bx z m2) := HXb; have HWb : Hid (WrAt wb ba z m2) := wr_under HWa.out HBb HAB.out; have HBw : Hid (Below w.heap.size w wb) := HBw0.out.trans (HBb.mono (by have := HAB.out; have := HSA.out; omega)); replace HBb : Hid _ := HBb)
            | (go_at_call 27; refine (left_wr _ _ z m2 z1 nm2 nk2 (by exact WrAt.kept (row := none) HWb.out (by repeat (first | (with_reducible exact grown_refl _ none) | (with_reducible refine grown_alloc ?_ _) | (with_reducible refine grown_drew ?_))) (by simp))).mono ?_; rintro e w5 ⟨rfl, rfl⟩)
            | (go_at_call 28; refine (rleft_any _ B _ z m2 z1 nm2 nk2 (by exact RfAt.kept (row := none) HXb.out (by repeat (first | (with_reducible exact grown_refl _ none) | (with_reducible refine grown_alloc ?_ _) | (with_reducible refine grown_drew ?_))) (by intro q e; cases e))).mono ?_; rintro e w5 ⟨rfl, rfl⟩))
          go_roundw
          case rel => exact ⟨j + 1, m2, by omega, by go_num, HG2, by omega, by omega, HWb.out.kept (row := none) (by repeat (first | (with_reducible exact grown_refl _ none) | (with_reducible refine grown_alloc ?_ _) | (with_reducible refine grown_drew ?_))) (by simp), HXb.out.kept (row := none) (by repeat (first | (with_reducible exact grown_refl _ none) | (with_reducible refine grown_alloc ?_ _) | (with_reducible refine grown_drew ?_))) (by intro q e; cases e), by repeat (first | exact HBw.out | refine Below.drew ?_)⟩
          case measure => simp [intOf]; omega
        · have hcase : decide (-7 ≤ v) = false ∨ (-7 ≤ v ∧ decide (v ≤ 7) = false) := by
            by_cases h1 : -7 ≤ v
            · exact .inr ⟨h1, by simp; omega⟩
            · exact .inl (by simp; omega)
          have HV : Hid (¬ (-7 ≤ v ∧ v ≤ 7)) := hv
          have HG2 := HG
          have nm2 : m.nD ≤ 700000 := by omega
          have nk2 : m.nR ≤ 700000 := by omega
          clear hv
          rcases hcase with h1 | ⟨h1, h2⟩
          all_goals (
            go_wp2_with (first
              | (go_at_call 23; refine (putstep_bad _ ba v HV.out).mono ?_; rintro e wa ⟨rfl, rfl⟩)
              | (go_at_call 27; refine (left_wr _ _ z m z1 nm2 nk2 (by exact WrAt.kept (row := none) HW.out (by repeat (first | (with_reducible exact grown_refl _ none) | (with_reducible refine grown_alloc ?_ _) | (with_reducible refine grown_drew ?_))) (by simp))).mono ?_; rintro e w5 ⟨rfl, rfl⟩)
              | (go_at_call 28; refine (rleft_any _ B _ z m z1 nm2 nk2 (by exact RfAt.kept (row := none) HX.out (by repeat (first | (with_reducible exact grown_refl _ none) | (with_reducible refine grown_alloc ?_ _) | (with_reducible refine grown_drew ?_))) (by intro q e; cases e))).mono ?_; rintro e w5 ⟨rfl, rfl⟩))
            go_roundw
            case rel => exact ⟨j + 1, m, by omega, by go_num, HG2, by omega, by omega, HW.out.kept (row := none) (by repeat (first | (with_reducible exact grown_refl _ none) | (with_reducible refine grown_alloc ?_ _) | (with_reducible refine grown_drew ?_))) (by simp), HX.out.kept (row := none) (by repeat (first | (with_reducible exact grown_refl _ none) | (with_reducible refine grown_alloc ?_ _) | (with_reducible refine grown_drew ?_))) (by intro q e; cases e), by repeat (first | exact HBA.out | refine Below.drew ?_)⟩
            case measure => simp [intOf]; omega)
      · by_cases hv : 1 ≤ t ∧ t ≤ 16777216 ∧ 0 ≤ v ∧ v < t
        · obtain ⟨t1, t2, v0, v1⟩ := hv
          obtain ⟨ll, q, sp, -, hs, -, -⟩ := sp_ex t1 t2
          have HS : Hid (Sp t q sp) := hs
          have hs16 := hs.s2
          have hnn := num_n m v q sp
          have HG2 : Hid (m.num v q sp).Good := num_good HG.out hs v0 v1
          obtain ⟨m2, hm2⟩ : ∃ m2, m.num v q sp = m2 := ⟨_, rfl⟩
          rw [hm2] at hnn HG2
          have HP2 : Hid (m.num v q sp = m2) := hm2
          clear hm2 hs
          have nm2 : m2.nD ≤ 700000 := by omega
          have nk2 : m2.nR ≤ 700000 := by omega
          go_wp2_with (first
            | (go_at_call 25; refine (putuint_wr _ ba z m v t q sp z1 nm nk v0 v1 HG HS (show WrAt _ _ z m from WrAt.kept (row := none) HW.out (by repeat (first | (with_reducible exact grown_refl _ none) | (with_reducible refine grown_alloc ?_ _) | (with_reducible refine grown_drew ?_))) (by simp))).mono ?_; rw [HP2.out]; rintro e wa ⟨rfl, HWa, HBa⟩; replace HWa : Hid (WrAt wa ba z m2) := HWa; have hcs := var_cell HBa (heap_alloc_new _ _) (by omega); have d0 := row_cell hcs 0 rfl; have d1 := row_cell hcs 1 rfl; clear hcs; have HXa : Hid (RfAt wa B bx z m) := (RfAt.kept HX.out (grown_alloc (grown_refl _ none) _) (by intro q e; cases e)).kept HBa (by intro q e; cases e; exact HAB.out); have HBw0 : Hid (Below w.heap.size w wa) := below_grown HBA.out HBa HSA.out HBA.out.size; have hBa : Hid (B ≤ wa.heap.size) := Nat.le_trans HBr.out (Nat.le_trans (grown_size (grown_alloc (grown_refl wr none) _)) HBa.size); replace HBa : Hid _ := HBa)
            | (go_at_call 26; refine (rputuint _ B bx z m v t q sp nm nk v0 v1 HG HS HXa).mono ?_; rw [HP2.out]; rintro e wb ⟨rfl, HXb, HBb⟩; replace HXb : Hid (RfAt wb B bx z m2) := HXb; have HWb : Hid (WrAt wb ba z m2) := wr_under HWa.out HBb HAB.out; have HBw : Hid (Below w.heap.size w wb) := HBw0.out.trans (HBb.mono (by have := HAB.out; have := HSA.out; omega)); replace HBb : Hid _ := HBb)
            | (go_at_call 27; refine (left_wr _ _ z m2 z1 nm2 nk2 (by exact WrAt.kept (row := none) HWb.out (by repeat (first | (with_reducible exact grown_refl _ none) | (with_reducible refine grown_alloc ?_ _) | (with_reducible refine grown_drew ?_))) (by simp))).mono ?_; rintro e w5 ⟨rfl, rfl⟩)
            | (go_at_call 28; refine (rleft_any _ B _ z m2 z1 nm2 nk2 (by exact RfAt.kept (row := none) HXb.out (by repeat (first | (with_reducible exact grown_refl _ none) | (with_reducible refine grown_alloc ?_ _) | (with_reducible refine grown_drew ?_))) (by intro q e; cases e))).mono ?_; rintro e w5 ⟨rfl, rfl⟩))
          go_roundw
          case rel => exact ⟨j + 1, m2, by omega, by go_num, HG2, by omega, by omega, HWb.out.kept (row := none) (by repeat (first | (with_reducible exact grown_refl _ none) | (with_reducible refine grown_alloc ?_ _) | (with_reducible refine grown_drew ?_))) (by simp), HXb.out.kept (row := none) (by repeat (first | (with_reducible exact grown_refl _ none) | (with_reducible refine grown_alloc ?_ _) | (with_reducible refine grown_drew ?_))) (by intro q e; cases e), by repeat (first | exact HBw.out | refine Below.drew ?_)⟩
          case measure => simp [intOf]; omega
        · have hcase : decide (1 ≤ t) = false ∨ (1 ≤ t ∧ decide (t ≤ 16777216) = false) ∨ (1 ≤ t ∧ t ≤ 16777216 ∧ decide (0 ≤ v) = false) ∨ (1 ≤ t ∧ t ≤ 16777216 ∧ 0 ≤ v ∧ decide (v < t) = false) := by
            by_cases h1 : 1 ≤ t
            · by_cases h2 : t ≤ 16777216
              · by_cases h3 : 0 ≤ v
                · exact .inr (.inr (.inr ⟨h1, h2, h3, by simp; omega⟩))
                · exact .inr (.inr (.inl ⟨h1, h2, by simp; omega⟩))
              · exact .inr (.inl ⟨h1, by simp; omega⟩)
            · exact .inl (by simp; omega)
          have HV : Hid (¬ (1 ≤ t ∧ t ≤ 16777216 ∧ 0 ≤ v ∧ v < t)) := hv
          have HG2 := HG
          have nm2 : m.nD ≤ 700000 := by omega
          have nk2 : m.nR ≤ 700000 := by omega
          clear hv
          rcases hcase with h1 | ⟨h1, h2⟩ | ⟨h1, h2, h3⟩ | ⟨h1, h2, h3, h4⟩
          all_goals (
            go_wp2_with (first
              | (go_at_call 25; refine (putuint_bad _ ba v t HV.out).mono ?_; rintro e wa ⟨rfl, rfl⟩)
              | (go_at_call 27; refine (left_wr _ _ z m z1 nm2 nk2 (by exact WrAt.kept (row := none) HW.out (by repeat (first | (with_reducible exact grown_refl _ none) | (with_reducible refine grown_alloc ?_ _) | (with_reducible refine grown_drew ?_))) (by simp))).mono ?_; rintro e w5 ⟨rfl, rfl⟩)
              | (go_at_call 28; refine (rleft_any _ B _ z m z1 nm2 nk2 (by exact RfAt.kept (row := none) HX.out (by repeat (first | (with_reducible exact grown_refl _ none) | (with_reducible refine grown_alloc ?_ _) | (with_reducible refine grown_drew ?_))) (by intro q e; cases e))).mono ?_; rintro e w5 ⟨rfl, rfl⟩))
            go_roundw
            case rel => exact ⟨j + 1, m, by omega, by go_num, HG2, by omega, by omega, HW.out.kept (row := none) (by repeat (first | (with_reducible exact grown_refl _ none) | (with_reducible refine grown_alloc ?_ _) | (with_reducible refine grown_drew ?_))) (by simp), HX.out.kept (row := none) (by repeat (first | (with_reducible exact grown_refl _ none) | (with_reducible refine grown_alloc ?_ _) | (with_reducible refine grown_drew ?_))) (by intro q e; cases e), by repeat (first | exact HBA.out | refine Below.drew ?_)⟩
            case measure => simp [intOf]; omega)
    · have e : j = n := by omega
      subst e
      clear hlt
      have nm : m.nD ≤ 700000 := by omega
      have nk : m.nR ≤ 700000 := by omega
      by_cases hl : 0 ≤ m.left z
      · have HOK : Hid m.Ok := HG.out.ok
        have HL : Hid _ := hl
        have hl' : ¬ (m.left z < 0) := by omega
        go_wp2_with (first
          | (go_at_call 29; refine (done_wr wr ba z m z0 z1 nk hl HW).mono ?_; rintro e w3 ⟨g1, rfl, hg1, HP1, HB3⟩; have HX3 : Hid (RfAt w3 B bx z m) := HX.out.kept (grown_below HB3 none) (by intro q e; cases e); replace HP1 : Hid (BytesAt w3 g1 z (m.pk z)) := HP1; replace HB3 : Hid (Below wr.heap.size wr w3) := HB3)
          | (go_at_call 28; refine (rleft_any _ B _ z m z1 nm nk HX3).mono ?_; rintro e w5 ⟨rfl, rfl⟩)
          | (go_at_call 31; refine (packet_any _ B bx z m z1 nm nk HOK (RfAt.kept (row := none) HX3.out (grown_drew (grown_refl _ none)) (by intro q e; cases e))).mono ?_; rintro e w4 ⟨vp, rfl, HV, HB4⟩; have HP4 : Hid (BytesAt w4 g1 z (m.pk z)) := HP1.out.kept (HB4.block g1 HP1.out.lt); replace HV : Hid _ := HV; replace HB4 : Hid (Below w3.heap.size w3 w4) := ⟨HB4.os, HB4.tape, HB4.output, HB4.size, HB4.block⟩)
          | (go_at_call 30; refine (same_any _ g1 z z (m.pk z) (m.pk z) vp _ z1 HP4 (fun i hi => pk_bd HOK.out HL.out hi) HV (fun _ _ => rfl)).mono ?_; rintro e w5 ⟨rfl, HB5⟩; replace HB5 : Hid (Below w4.heap.size w4 w5) := HB5))
        go_ret
        have s3 := Nat.le_trans HB.out.size HB3.out.size
        have s4 := Nat.le_trans s3 HB4.out.size
        exact ⟨rfl, ((HB.out.trans (HB3.out.mono HB.out.size)).trans (HB4.out.mono s3)).trans (HB5.out.mono s4)⟩
      · have hl' : m.left z < 0 := by omega
        clear hl
        go_wp2_with (first
          | (go_at_call 29; refine (done_full _ _ z m z1 nm nk hl' HW).mono ?_; rintro e w5 ⟨rfl, rfl⟩)
          | (go_at_call 28; refine (rleft_any _ B _ z m z1 nm nk (RfAt.kept (row := none) HX.out (grown_drew (grown_refl _ none)) (by intro q e; cases e))).mono ?_; rintro e w5 ⟨rfl, rfl⟩))
        go_ret
        exact ⟨rfl, by repeat (first | exact HB.out | refine Below.drew ?_)⟩

end Go.Proofs.YtohgbdhackmooaaDoor
