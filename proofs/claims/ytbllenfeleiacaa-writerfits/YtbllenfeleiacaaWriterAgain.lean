/-
  The law WriterAgain of layer 6 as a walk: it returns true, and nothing that was there has turned.
-/
import Derived.Test.YtbllenfeleiacaaWriterRange
namespace Go.Proofs.Ytbllenfeleiacaa
set_option linter.unusedVariables false
open Go.ChangeShapes Go.WideShapes Go.ChangeAt Go.RowKit

theorem again_long (s : Int) (ao : Option Addr) (n cap : Nat) (at' : Int) (w : World) (hn : 200 < n) :
    Calls Try.prog 4 #[.int .u16 s, .slice ao n cap, .int .u8 at'] w fun e w' => e = .returned (.bool true) ∧ Below w.heap.size w w' := by
  have hn' : (200 : Int) < (n : Int) := by omega
  go_enter Try.func4, Try.ntmps4
  go_wp2_with (go_at_call 7; refine (awake_any _).mono ?_; rintro e W0 ⟨rfl, hB0⟩)
  go_ret
  exact ⟨rfl, hB0⟩

/-- A call, done by the law's own function. -/
theorem do_any (w : World) (b z : Nat) (m : Mo) (k x y t u : Int) (hz : z ≤ 1275) (hn : m.nD ≤ 600000) (hk : m.nR ≤ 600000) (hg : Hid m.Good) (hw : Hid (WrAt w b z m)) (k0 : 0 ≤ k) (k1 : k ≤ 255) (u0 : 0 ≤ u) (u1 : u < 4294967296) :
    Calls Try.prog 21 #[.pointer (some ⟨b, 0, none⟩), .agg #[.int .u8 k, .int .i64 x, .int .i64 y, .int .i64 t, .int .u32 u]] w fun e w' => e = .returned (.tuple #[]) ∧ WrAt w' b z (m.op ⟨k, x, y, t, u⟩) ∧ w.grownBy w' (some b) := by
  have hlt := hw.out.lt
  have e1 : Int.tmod k 2 = k % 2 := Int.tmod_eq_emod_of_nonneg k0
  unfold Mo.op
  by_cases h : k % 2 = 0
  · rw [if_pos h]
    go_enter Try.func21, Try.ntmps21
    go_wp2_with (go_at_call 10; refine (put_un _ b z m x y t hz hn hk hg (show WrAt _ _ z m from WrAt.kept (row := none) hw.out (by repeat (first | (with_reducible exact grown_refl _ none) | (with_reducible refine grown_alloc ?_ _) | (with_reducible refine grown_drew ?_))) (by simp))).mono ?_; rintro e w2 ⟨rfl, HW2, HB2⟩; replace HW2 : Hid (WrAt w2 b z (m.putU x y t)) := HW2; replace HB2 : Hid _ := HB2)
    go_end0
    exact ⟨rfl, HW2.out, grown_trans (grown_alloc (grown_refl _ _) _) HB2.out⟩
  · rw [if_neg h]
    go_enter Try.func21, Try.ntmps21
    go_wp2_with (go_at_call 13; refine (raw_un _ b z m u y hz hn hk u0 u1 (show WrAt _ _ z m from WrAt.kept (row := none) hw.out (by repeat (first | (with_reducible exact grown_refl _ none) | (with_reducible refine grown_alloc ?_ _) | (with_reducible refine grown_drew ?_))) (by simp))).mono ?_; rintro e w2 ⟨rfl, HW2, HB2⟩; replace HW2 : Hid (WrAt w2 b z (m.rawU u y)) := HW2; replace HB2 : Hid _ := HB2)
    go_end0
    exact ⟨rfl, HW2.out, grown_trans (grown_alloc (grown_refl _ _) _) HB2.out⟩

theorem BytesAt.set {w : World} {g z : Nat} {p : Nat → Int} (h : BytesAt w g z p) (k : Nat) (v : Int) : BytesAt (w.setCell ⟨g, k, none⟩ (.int .u8 v)) g z (setF p k v) := by
  obtain ⟨L, h1, h2, h3⟩ := h
  refine ⟨L.set k (.int .u8 v), ?_, by simpa using h2, fun i hi => ?_⟩
  · simp only [World.setCell]
    rw [Array.getElem?_modify, if_pos rfl, h1]
    simp
  · unfold setF
    by_cases e : i = k
    · subst e; rw [if_pos rfl, List.getElem?_set_self (by omega)]
    · rw [if_neg e, List.getElem?_set_ne (by omega)]; exact h3 i hi
theorem BytesAt.free {w : World} {g z : Nat} {p : Nat → Int} (h : BytesAt w g z p) (i : Nat) : w.frozen? ⟨g, i, none⟩ = false := by
  obtain ⟨L, h1, h2, h3⟩ := h
  exact frozen_of_row _ _ i _ _ h1
theorem below_set {B g o : Nat} {w w' : World} (h : Below B w w') (hg : B ≤ g) (v : Value) : Below B w (w'.setCell ⟨g, o, none⟩ v) :=
  h.trans ⟨rfl, rfl, rfl, by simp [World.setCell], fun k hk => Below.heap_setCell _ _ _ _ (by intro e; have : k = g := e; omega)⟩

set_option maxRecDepth 20000 in
set_option maxHeartbeats 2000000 in
theorem again_any (s : Int) (s0 : 0 ≤ s) (s1 : s < 65536) (ao : Option Addr) (n cap : Nat) (f : Nat → Opv) (at' : Int) (a0 : 0 ≤ at') (a1 : at' ≤ 255) (w : World) (hn : n ≤ 200) (hf : Hid (OpsAt w ao n f)) :
    Calls Try.prog 4 #[.int .u16 s, .slice ao n cap, .int .u8 at'] w fun e w' => e = .returned (.bool true) ∧ Below w.heap.size w w' := by
  have hn' : (n : Int) ≤ 200 := by omega
  have e1 : Int.tmod s 1272 = s % 1272 := Int.tmod_eq_emod_of_nonneg s0
  have e2 : Int.tmod at' 7 = at' % 7 := Int.tmod_eq_emod_of_nonneg a0
  obtain ⟨z, hz⟩ : ∃ z : Nat, 4 + s % 1272 = z := ⟨(4 + s % 1272).toNat, by omega⟩
  have z0 : 4 ≤ z := by omega
  have z1 : z ≤ 1275 := by omega
  go_enter Try.func4, Try.ntmps4
  go_wp2_with (first
    | (go_at_call 7; refine (awake_any _).mono ?_; rintro e W0 ⟨rfl, HB0⟩; replace HB0 : Hid (Below w.heap.size w W0) := HB0)
    | (go_at_call 8; refine (new_any W0 z z0 z1).mono ?_; rintro e w1 ⟨rfl, HW1, HB1⟩; replace HW1 : Hid (WrAt w1 W0.heap.size z Mo.new) := HW1; replace HB1 : Hid (Below W0.heap.size W0 w1) := HB1)
    | (go_at_call 8; refine (new_any w1 z z0 z1).mono ?_; rintro e w2 ⟨rfl, HW2, HB2⟩; replace HW2 : Hid (WrAt w2 w1.heap.size z Mo.new) := HW2; replace HB2 : Hid (Below w1.heap.size w1 w2) := HB2))
  have HS : Hid (w.heap.size ≤ W0.heap.size) := HB0.out.size
  have HAB : Hid (W0.heap.size < w1.heap.size) := HW1.out.lt
  obtain ⟨q, hq⟩ : ∃ q : Int, 1 + at' % 7 = q := ⟨_, rfl⟩
  have q0 : 0 < q := by omega
  have q1 : q ≤ 7 := by omega
  have q2 : ¬ (q = 0) := by omega
  have HVA : Hid (WrAt w2 W0.heap.size z Mo.new) := HW1.out.kept (grown_below HB2.out none) (by simp)
  have HBW : Hid (Below w.heap.size w w2) := (HB0.out.trans (HB1.out.mono HB0.out.size)).trans (HB2.out.mono (Nat.le_trans HB0.out.size HB1.out.size))
  generalize hba : W0.heap.size = ba at *
  generalize hbb : w1.heap.size = bb at *
  have HSA : Hid (w.heap.size ≤ ba) := HS
  clear HS
  go_loopw [57] (fun i wr => ∃ (j : Nat) (m : Mo), j ≤ n ∧ i = .int .i64 j ∧ Hid m.Good ∧ m.nD ≤ 3 + 2 * j ∧ m.nR ≤ 16 * j ∧ Hid (WrAt wr ba z m) ∧ Hid (WrAt wr bb z m) ∧ Hid (Below w.heap.size w wr)) (fun i _ => n - (intOf i).toNat)
  case atStart => exact ⟨0, Mo.new, by omega, rfl, new_ok, by decide, by decide, HVA.out, HW2.out, HBW.out⟩
  case round =>
    obtain ⟨j, m, hj, rfl, HG, n1, n2, HW, HV, HB⟩ := hrel
    have hlta := HW.out.lt
    have hltb := HV.out.lt
    by_cases hlt : j < n
    · have hlt' : (j : Int) < n := by omega
      obtain ⟨bo, off, rfl, c0, c1, c2, c3, c4, ho⟩ := (hf.out.below HB.out) j hlt
      generalize f j = o at *
      obtain ⟨k, x, y, t, u⟩ := o
      simp only at c0 c1 c2 c3 c4
      obtain ⟨k0, k1, u0, u1⟩ : 0 ≤ k ∧ k ≤ 255 ∧ 0 ≤ u ∧ u < 4294967296 := ⟨ho.k0, ho.k1, ho.x0, ho.x1⟩
      clear ho
      have nm : m.nD ≤ 600000 := by omega
      have nk : m.nR ≤ 600000 := by omega
      have hg2 := op_good HG.out ⟨k, x, y, t, u⟩
      have hn2 := op_n (m := m) ⟨k, x, y, t, u⟩
      obtain ⟨m2, hm2⟩ : ∃ m2, m.op ⟨k, x, y, t, u⟩ = m2 := ⟨_, rfl⟩
      rw [hm2] at hg2 hn2
      have HM2 : Hid _ := hm2
      have HG2 : Hid m2.Good := hg2
      clear hm2 hg2
      have e3 : Int.tmod (j : Int) q = j % q := Int.tmod_eq_emod_of_nonneg (by omega)
      go_wp2_with (first
        | (go_at_call 21; refine (do_any _ bb z m k x y t u z1 nm nk HG (show WrAt wa bb z m from WrAt.kept (row := some ba) (WrAt.kept (row := none) HV.out (grown_alloc (grown_refl _ none) _) (by simp)) HBa.out (by have := HAB.out; simp; omega)) k0 k1 u0 u1).mono ?_; rintro e wb ⟨rfl, HWb, HBb⟩; rw [HM2.out] at HWb; have HWc : Hid (WrAt wb ba z m2) := HWa.out.kept (row := some bb) HBb (by have := HAB.out; simp; omega); have HBw : Hid (Below w.heap.size w wb) := below_grown (below_grown (HB.out.alloc HB.out.size _) HBa.out HSA.out (Nat.le_trans HB.out.size (grown_size (grown_alloc (grown_refl wr none) _)))) HBb (by have := HAB.out; have := HSA.out; omega) (Nat.le_trans (Nat.le_trans HB.out.size (grown_size (grown_alloc (grown_refl wr none) _))) (grown_size HBa.out)); replace HWb : Hid (WrAt wb bb z m2) := HWb; replace HBb : Hid _ := HBb)
        | (go_at_call 21; refine (do_any _ ba z m k x y t u z1 nm nk HG (show WrAt _ _ z m from WrAt.kept (row := none) HW.out (by repeat (first | (with_reducible exact grown_refl _ none) | (with_reducible refine grown_alloc ?_ _) | (with_reducible refine grown_drew ?_))) (by simp)) k0 k1 u0 u1).mono ?_; rintro e wa ⟨rfl, HWa, HBa⟩; rw [HM2.out] at HWa; replace HWa : Hid (WrAt wa ba z m2) := HWa; have hcs := var_cell HBa (heap_alloc_new _ _) (by omega); have d0 := row_cell hcs 0 rfl; have d1 := row_cell hcs 1 rfl; have d2 := row_cell hcs 2 rfl; have d3 := row_cell hcs 3 rfl; have d4 := row_cell hcs 4 rfl; clear hcs; replace HBa : Hid _ := HBa)
        )
      case roundEnd =>
        go_roundw
        case rel => exact ⟨j + 1, m2, by omega, by go_num, HG2, by omega, by omega, HWc, HWb, HBw⟩
        case measure => simp [intOf]; omega
      by_cases hl : 0 ≤ m2.left z
      · refine (done_wr wb ba z m2 z0 z1 (by omega) hl HWc).mono ?_
        rintro e w3 ⟨g, rfl, hg, HP, HB3⟩
        replace HB3 : Hid (Below wb.heap.size wb w3) := HB3
        replace HP : Hid (BytesAt w3 g z (m2.pk z)) := HP
        have HGg : Hid (wb.heap.size ≤ g) := hg
        have zi : (z : Int) ≤ 1275 := by omega
        clear hg hl
        go_wp2
        go_loopw [84] (fun i wq => ∃ (l : Nat) (p : Nat → Int), l ≤ z ∧ i = .int .i64 l ∧ Hid (BytesAt wq g z p) ∧ Hid (Below wb.heap.size wb wq)) (fun i _ => z - (intOf i).toNat)
        case atStart => exact ⟨0, _, by omega, rfl, HP, HB3⟩
        case round =>
          obtain ⟨l, p, hl, rfl, HPq, HBq⟩ := hrel
          by_cases hlz : l < z
          · have hlz' : (l : Int) < z := by omega
            have cc := HPq.out.cell hlz
            have fz := HPq.out.free l
            go_wp2
            go_roundw
            case rel => exact ⟨l + 1, _, by omega, by go_num, HPq.out.set l 7, below_set HBq.out HGg.out _⟩
            case measure => simp [intOf]; omega
          · have e : l = z := by omega
            subst e
            clear hlz
            go_wp2
            go_roundw
            case rel => exact ⟨j + 1, m2, by omega, by go_num, HG2, by omega, by omega, HWc.out.kept (grown_below HBq.out none) (by simp), HWb.out.kept (grown_below HBq.out none) (by simp), HBw.out.trans (HBq.out.mono HBw.out.size)⟩
            case measure => simp [intOf]; omega
      · refine (done_full wb ba z m2 z1 (by omega) (by omega) (by omega) HWc).mono ?_
        rintro e w3 ⟨rfl, rfl⟩
        go_wp2
        refine wp_loop_rounds 1 ?_
        rw [rounds_succ]
        go_wp2
        go_roundw
        case rel => exact ⟨j + 1, m2, by omega, by go_num, HG2, by omega, by omega, HWc.out.kept (grown_drew (grown_refl _ none)) (by simp), HWb.out.kept (grown_drew (grown_refl _ none)) (by simp), HBw.out.drew⟩
        case measure => simp [intOf]; omega
    · have e : j = n := by omega
      subst e
      clear hlt
      have nm : m.nD ≤ 700000 := by omega
      have nk : m.nR ≤ 700000 := by omega
      by_cases hl : 0 ≤ m.left z
      · go_wp2_with (first
          | (go_at_call 18; refine (done_wr w3 bb z m z0 z1 nk hl (HV.out.kept (grown_below HB3.out none) (by simp))).mono ?_; rintro e w4 ⟨g2, rfl, hg2, HP2, HB4⟩; have hs2 := HP2.str (o := 0) (k := z) (cap := z) (by omega); have hs1 := (HP1.out.kept (HB4.block g1 HP1.out.lt)).str (o := 0) (k := z) (cap := z) (by omega); have HWx : Hid (WrAt w4 ba z m) := (HW.out.kept (grown_below HB3.out none) (by simp)).kept (grown_below HB4 none) (by simp); have HVx : Hid (WrAt w4 bb z m) := (HV.out.kept (grown_below HB3.out none) (by simp)).kept (grown_below HB4 none) (by simp); replace HB4 : Hid (Below w3.heap.size w3 w4) := HB4; clear HP2)
          | (go_at_call 18; refine (done_wr wr ba z m z0 z1 nk hl HW).mono ?_; rintro e w3 ⟨g1, rfl, hg1, HP1, HB3⟩; replace HP1 : Hid (BytesAt w3 g1 z (m.pk z)) := HP1; replace HB3 : Hid (Below wr.heap.size wr w3) := HB3)
          | (go_at_call 15; refine (left_wr _ _ z m z1 nm nk (by first | (exact WrAt.kept (b := ba) (row := none) HWx.out (by repeat (first | (with_reducible exact grown_refl _ none) | (with_reducible refine grown_alloc ?_ _) | (with_reducible refine grown_drew ?_))) (by simp)) | (exact WrAt.kept (b := bb) (row := none) HVx.out (by repeat (first | (with_reducible exact grown_refl _ none) | (with_reducible refine grown_alloc ?_ _) | (with_reducible refine grown_drew ?_))) (by simp)))).mono ?_; rintro e w5 ⟨rfl, rfl⟩)
          | (go_at_call 17; refine (rng_wr _ _ z m (by first | (exact WrAt.kept (b := ba) (row := none) HWx.out (by repeat (first | (with_reducible exact grown_refl _ none) | (with_reducible refine grown_alloc ?_ _) | (with_reducible refine grown_drew ?_))) (by simp)) | (exact WrAt.kept (b := bb) (row := none) HVx.out (by repeat (first | (with_reducible exact grown_refl _ none) | (with_reducible refine grown_alloc ?_ _) | (with_reducible refine grown_drew ?_))) (by simp)))).mono ?_; rintro e w5 ⟨rfl, rfl⟩)
          )
        go_ret
        have h3 : w.heap.size ≤ w3.heap.size := Nat.le_trans HB.out.size HB3.out.size
        have hfin := (HB.out.trans (HB3.out.mono HB.out.size)).trans (HB4.out.mono h3)
        exact ⟨rfl, by repeat (first | exact hfin | refine Below.drew ?_)⟩
      · have hl' : m.left z < 0 := by omega
        have hs0 : ∀ w, Sem.run Try.prog (convert 43 9 (.slice none 0 0)) w = .ok (.string ByteArray.empty) w := fun w => run_convert_bytes_nil w 43 5 Try.underlying43 Try.underlying5 0 0 9 Try.underlying9
        go_wp2_with (first
          | (go_at_call 18; refine (done_full _ _ z m z1 nm nk hl' (by first | (exact WrAt.kept (b := ba) (row := none) HW.out (by repeat (first | (with_reducible exact grown_refl _ none) | (with_reducible refine grown_alloc ?_ _) | (with_reducible refine grown_drew ?_))) (by simp)) | (exact WrAt.kept (b := bb) (row := none) HV.out (by repeat (first | (with_reducible exact grown_refl _ none) | (with_reducible refine grown_alloc ?_ _) | (with_reducible refine grown_drew ?_))) (by simp)))).mono ?_; rintro e w5 ⟨rfl, rfl⟩)
          | (go_at_call 15; refine (left_wr _ _ z m z1 nm nk (by first | (exact WrAt.kept (b := ba) (row := none) HW.out (by repeat (first | (with_reducible exact grown_refl _ none) | (with_reducible refine grown_alloc ?_ _) | (with_reducible refine grown_drew ?_))) (by simp)) | (exact WrAt.kept (b := bb) (row := none) HV.out (by repeat (first | (with_reducible exact grown_refl _ none) | (with_reducible refine grown_alloc ?_ _) | (with_reducible refine grown_drew ?_))) (by simp)))).mono ?_; rintro e w5 ⟨rfl, rfl⟩)
          | (go_at_call 17; refine (rng_wr _ _ z m (by first | (exact WrAt.kept (b := ba) (row := none) HW.out (by repeat (first | (with_reducible exact grown_refl _ none) | (with_reducible refine grown_alloc ?_ _) | (with_reducible refine grown_drew ?_))) (by simp)) | (exact WrAt.kept (b := bb) (row := none) HV.out (by repeat (first | (with_reducible exact grown_refl _ none) | (with_reducible refine grown_alloc ?_ _) | (with_reducible refine grown_drew ?_))) (by simp)))).mono ?_; rintro e w5 ⟨rfl, rfl⟩)
          )
        go_ret
        exact ⟨rfl, by repeat (first | exact HB.out | refine Below.drew ?_)⟩

end Go.Proofs.Ytbllenfeleiacaa
