/-
  The law ReaderBack of layer 7 as a walk: it returns true, and nothing that was there has turned.
-/
import Derived.Test.YtdbhonebgeeioaaBackMem
import Derived.Test.YtdbhonebgeeioaaReaderCalls3
namespace Go.Proofs.Ytdbhonebgeeioaa
set_option linter.unusedVariables false
open Go.ChangeShapes Go.WideShapes Go.ChangeAt Go.RowKit

theorem back_long (s : Int) (ao : Option Addr) (n cap : Nat) (w : World) (hn : 200 < n) :
    Calls Try.prog 4 #[.int .u16 s, .slice ao n cap] w fun e w' => e = .returned (.bool true) ∧ Below w.heap.size w w' := by
  have hn' : (200 : Int) < (n : Int) := by omega
  go_enter Try.func4, Try.ntmps4
  go_wp2_with (go_at_call 8; refine (rawake _).mono ?_; rintro e W0 ⟨rfl, hB0⟩)
  go_ret
  exact ⟨rfl, hB0⟩

theorem row_slice {w : World} {B : Nat} {e : TypeId} {s : Nat} {v : Value} {n : Nat} {xs : List Value} (h : w.ownsRow B e s v n xs) : ∃ ao cap, v = .slice ao n cap := by
  rcases h.2 with ⟨rfl, rfl⟩ | ⟨g, cap, cur, rfl, _⟩
  · exact ⟨none, 0, rfl⟩
  · exact ⟨_, cap, rfl⟩
theorem grown_bN (w : World) (q : Nat) : w.grownBy (w.drewN q) none := ⟨rfl, rfl, rfl, Nat.le_refl _, fun _ _ _ => rfl⟩
theorem bdrew_ex (w : World) (a : Nat) : ∃ n, (w.drewN a).drew = w.drewN n := ⟨a + 1, rfl⟩
theorem below_bN {B : Nat} {w w' : World} (h : Below B w w') (n : Nat) : Below B w (w'.drewN n) := h.trans ⟨rfl, rfl, rfl, Nat.le_refl _, fun _ _ => rfl⟩
/-- The list of calls, with one more. -/
def extF (F : Nat → Opv) (c : Nat) (o : Opv) : Nat → Opv := fun q => if q = c then o else F q
theorem extF_at (F : Nat → Opv) (c : Nat) (o : Opv) : extF F c o c = o := if_pos rfl
theorem extF_old (F : Nat → Opv) (c : Nat) (o : Opv) (i : Nat) (h : i < c) : F i = extF F c o i := (if_neg (by omega)).symm
theorem ext_acc {F : Nat → Opv} {c : Nat} {o : Opv} (h : ∀ q, q < c → Acc (F q)) (ho : Acc o) : ∀ q, q < c + 1 → Acc (extF F c o q) := by
  intro q hq
  by_cases e : q = c
  · subst e; rw [extF_at]; exact ho
  · rw [← extF_old F c o q (by omega)]; exact h q (by omega)
theorem ext_mk (F : Nat → Opv) (c : Nat) (o : Opv) : Mk (extF F c o) (c + 1) = (Mk F c).op o := by
  rw [mk_succ, extF_at, ← mk_congr (extF_old F c o)]

set_option maxHeartbeats 8000000 in
set_option maxRecDepth 20000 in
theorem back_any (s : Int) (s0 : 0 ≤ s) (s1 : s < 65536) (ao : Option Addr) (n cap : Nat) (f : Nat → Opv) (w : World) (hn : n ≤ 200) (hf : Hid (OpsAt w ao n f)) :
    Calls Try.prog 4 #[.int .u16 s, .slice ao n cap] w fun e w' => e = .returned (.bool true) ∧ Below w.heap.size w w' := by
  have hn' : (n : Int) ≤ 200 := by omega
  have e1 : Int.tmod s 1272 = s % 1272 := Int.tmod_eq_emod_of_nonneg s0
  obtain ⟨z, hz⟩ : ∃ z : Nat, 4 + s % 1272 = z := ⟨(4 + s % 1272).toNat, by omega⟩
  have z0 : 4 ≤ z := by omega
  have z1 : z ≤ 1275 := by omega
  go_enter Try.func4, Try.ntmps4
  go_wp2_with (first
    | (go_at_call 8; refine (rawake _).mono ?_; rintro e W0 ⟨rfl, HB0⟩; replace HB0 : Hid (Below w.heap.size w W0) := HB0)
    | (go_at_call 20; refine (new_any W0 z z0 z1).mono ?_; rintro e w1 ⟨rfl, HW1, HB1⟩; replace HW1 : Hid (WrAt w1 W0.heap.size z Mo.new) := HW1; replace HB1 : Hid (Below W0.heap.size W0 w1) := HB1))
  have HS : Hid (w.heap.size ≤ W0.heap.size) := HB0.out.size
  have HLT : Hid (W0.heap.size < w1.heap.size) := HW1.out.lt
  have HBW : Hid (Below w.heap.size w w1) := HB0.out.trans (HB1.out.mono HB0.out.size)
  have HJ1 : Hid (BackJ w1 w1.heap.size W0.heap.size z (.slice none 0 0) (.slice none 0 0) (.slice none 0 0) 0 0 0 (fun _ => ⟨0, 0, 0, 0, 0⟩) (Mk (fun _ => ⟨0, 0, 0, 0, 0⟩) 0)) := BackJ.new HW1.out HLT.out
  have HSZ1 : Hid (w1.heap.size ≤ w1.heap.size) := Nat.le_refl _
  generalize W0.heap.size = bw at *
  obtain ⟨B, hB⟩ : ∃ B, w1.heap.size = B := ⟨_, rfl⟩
  rw [hB] at HLT HJ1
  have HBs : Hid (B ≤ w1.heap.size) := by rw [hB]; exact Nat.le_refl _
  have HwB : Hid (w.heap.size ≤ B) := Nat.le_trans HS.out (Nat.le_of_lt HLT.out)
  clear hB HSZ1 HW1 HB1 HB0
  go_loopw [7, 8, 9, 40] (fun vL vR vP i wr => ∃ (j c : Nat) (F : Nat → Opv), j ≤ n ∧ c ≤ j ∧ i = .int .i64 j ∧ Hid (∀ q, q < c → Acc (F q)) ∧ Hid (BackJ wr B bw z vP vL vR c c c F (Mk F c)) ∧ Hid (B ≤ wr.heap.size) ∧ Hid (Below w.heap.size w wr)) (fun _ _ _ i _ => n - (intOf i).toNat)
  case atStart => exact ⟨0, 0, _, by omega, by omega, rfl, fun q hq => by omega, HJ1, HBs, HBW⟩
  case round =>
    obtain ⟨j, c, F, hj, hc, rfl, HA, HJ, HBr, HB⟩ := hrel
    by_cases hlt : j < n
    · have hlt' : (j : Int) < n := by omega
      obtain ⟨bo, off, rfl, c0, c1, c2, c3, c4, ho⟩ := (hf.out.below HB.out) j hlt
      generalize f j = o at *
      obtain ⟨k, x, y, t, u⟩ := o
      simp only at c0 c1 c2 c3 c4
      obtain ⟨k0, k1, u0, u1⟩ : 0 ≤ k ∧ k ≤ 255 ∧ 0 ≤ u ∧ u < 4294967296 := ⟨ho.k0, ho.k1, ho.x0, ho.x1⟩
      have HOK : Hid (Opv.Ok ⟨k, x, y, t, u⟩) := ho
      clear ho
      have HN := mk_n F c
      have HG : Hid (Mk F c).Good := mk_good F c
      obtain ⟨m, hm⟩ : ∃ m, Mk F c = m := ⟨_, rfl⟩
      rw [hm] at HJ HN HG
      have HM : Hid (Mk F c = m) := hm
      clear hm
      have nm : m.nD ≤ 600000 := by omega
      have nk : m.nR ≤ 600000 := by omega
      have HLW : Hid (bw < wr.heap.size) := HJ.out.wr.lt
      have ek : Int.tmod k 2 = k % 2 := Int.tmod_eq_emod_of_nonneg k0
      by_cases hk : k % 2 = 0
      · by_cases hm : 0 ≤ x ∧ x < y ∧ y ≤ t ∧ t ≤ 4096
        · have HMAY : Hid (May x y t) := hm
          have HAC : Hid (Acc ⟨k, x, y, t, u⟩) := ⟨HOK.out, fun _ => hm, fun h => absurd hk h⟩
          have HM2 : Hid (Mk (extF F c ⟨k, x, y, t, u⟩) (c + 1) = m.put x y t) := by
            show _ = _
            rw [ext_mk, HM.out]; unfold Mo.op; rw [if_pos hk]; unfold Mo.putU; rw [if_pos hm]
          have hn2 := put_nD m x y t
          have hr2 := (put_nR m x y t).1
          obtain ⟨m2, hm2⟩ : ∃ m2, m.put x y t = m2 := ⟨_, rfl⟩
          rw [hm2] at HM2 hn2 hr2
          have HP2 : Hid (m.put x y t = m2) := hm2
          have nm2 : m2.nD ≤ 700000 := by omega
          have nk2 : m2.nR ≤ 700000 := by omega
          clear hm hm2 hn2 hr2 HN
          go_wp2_with (first
            | (go_at_call 21; refine (put_wr _ bw z m x y t z1 nm nk HG HMAY (show WrAt _ _ z m from WrAt.kept (row := none) HJ.out.wr (by repeat (first | (with_reducible exact grown_refl _ none) | (with_reducible refine grown_alloc ?_ _) | (with_reducible refine grown_drew ?_))) (by simp))).mono ?_; rw [HP2.out]; rintro e wa ⟨rfl, HWa, HBa⟩; have hcs := var_cell HBa (heap_alloc_new _ _) (by have := HLW.out; omega); have d0 := row_cell hcs 0 rfl; have d1 := row_cell hcs 1 rfl; have d2 := row_cell hcs 2 rfl; have d3 := row_cell hcs 3 rfl; have d4 := row_cell hcs 4 rfl; clear hcs; have HJa : Hid (BackJ wa B bw z u9 u7 u8 c c c (extF F c ⟨k, x, y, t, u⟩) m2) := ((HJ.out.keep (by repeat (first | (with_reducible exact grown_refl _ none) | (with_reducible refine grown_alloc ?_ _) | (with_reducible refine grown_drew ?_)))).put HWa HBa).congr (n := c) (Nat.le_refl _) (Nat.le_refl _) (Nat.le_refl _) (extF_old F c _); have HBwa : Hid (Below w.heap.size w wa) := below_grown (HB.out.alloc HB.out.size _) HBa HS.out (Nat.le_trans HB.out.size (grown_size (grown_alloc (grown_refl wr none) _))); have HSa : Hid (B ≤ wa.heap.size) := Nat.le_trans HBr.out (Nat.le_trans (grown_size (grown_alloc (grown_refl wr none) _)) (grown_size HBa)); clear HWa HBa)
            | (at_builtin; refine wpList_push5 rfl (.tmp 64) (.tmp 66) rfl B u9 c (extF F c ⟨k, x, y, t, u⟩) rfl (HJa.out.keep (by repeat (first | (with_reducible exact grown_refl _ none) | (with_reducible refine grown_alloc ?_ _) | (with_reducible refine grown_drew ?_)))).p wa.heap.size ⟨k, x, y, t, u⟩ rfl (heap_alloc_new wa _) (by omega) (Nat.le_trans HSa.out (grown_size (grown_alloc (grown_refl wa none) _))) ?_; intro gP cP w2 ho2 hg2 hat2 _; have HJ2 : Hid (BackJ w2 B bw z (.slice (some ⟨gP, 0, none⟩) (c + 1) cP) u7 u8 (c + 1) c c (extF F c ⟨k, x, y, t, u⟩) m2) := (HJa.out.keep (by repeat (first | (with_reducible exact grown_refl _ none) | (with_reducible refine grown_alloc ?_ _) | (with_reducible refine grown_drew ?_)))).pushP (by rw [extF_at]; exact ho2) hg2 hat2; have HB2 : Hid (Below w.heap.size w w2) := below_row (HBwa.out.alloc HBwa.out.size _) hg2 (fun g e => Nat.le_trans HwB.out (HJa.out.p.lt g e).1) (Nat.le_trans HBwa.out.size (grown_size (grown_alloc (grown_refl wa none) _))); have HS2 : Hid (B ≤ w2.heap.size) := Nat.le_trans HSa.out (Nat.le_trans (grown_size (grown_alloc (grown_refl wa none) _)) (grown_size hg2)); clear ho2 hg2 hat2)
            | (go_at_call 23; refine (left_wr w2 bw z m2 z1 nm2 nk2 HJ2.out.wr).mono ?_; rintro e w5 ⟨rfl, rfl⟩)
            | (at_builtin; refine wpList_pushI rfl (.tmp 68) (.tmp 71) rfl B u7 c _ rfl (HJ2.out.keep (by repeat (first | (with_reducible exact grown_refl _ none) | (with_reducible refine grown_alloc ?_ _) | (with_reducible refine grown_drew ?_)))).l w2.heap.size (m2.left z) rfl (heap_alloc_new w2.drew _) (by omega) (Nat.le_trans HS2.out (grown_size (grown_alloc (grown_drew (grown_refl w2 none)) _))) ?_; intro gL cL w3 ho3 hg3 hat3 _; have HJ3 : Hid (BackJ w3 B bw z (.slice (some ⟨gP, 0, none⟩) (c + 1) cP) (.slice (some ⟨gL, 0, none⟩) (c + 1) cL) u8 (c + 1) (c + 1) c (extF F c ⟨k, x, y, t, u⟩) m2) := (HJ2.out.keep (by repeat (first | (with_reducible exact grown_refl _ none) | (with_reducible refine grown_alloc ?_ _) | (with_reducible refine grown_drew ?_)))).pushL ho3 hg3 hat3 (by rw [HM2.out]); have HB3 : Hid (Below w.heap.size w w3) := below_row (HB2.out.drew.alloc HB2.out.size _) hg3 (fun g e => Nat.le_trans HwB.out (HJ2.out.l.lt e).1) (Nat.le_trans HB2.out.size (grown_size (grown_alloc (grown_drew (grown_refl w2 none)) _))); have HS3 : Hid (B ≤ w3.heap.size) := Nat.le_trans HS2.out (Nat.le_trans (grown_size (grown_alloc (grown_drew (grown_refl w2 none)) _)) (grown_size hg3)); clear ho3 hg3 hat3)
            | (go_at_call 24; refine (rng_wr w3 bw z m2 HJ3.out.wr).mono ?_; rintro e w5 ⟨rfl, rfl⟩)
            | (at_builtin; refine wpList_pushU rfl (.tmp 73) (.tmp 76) rfl B u8 c _ rfl (HJ3.out.keep (by repeat (first | (with_reducible exact grown_refl _ none) | (with_reducible refine grown_alloc ?_ _) | (with_reducible refine grown_drew ?_)))).r w5.heap.size m2.rng rfl (heap_alloc_new w5 _) (by omega) (Nat.le_trans HS3.out (grown_size (grown_alloc (grown_refl w5 none) _))) ?_; intro gR cR w4 ho4 hg4 hat4 _; have HJ4 : Hid (BackJ w4 B bw z (.slice (some ⟨gP, 0, none⟩) (c + 1) cP) (.slice (some ⟨gL, 0, none⟩) (c + 1) cL) (.slice (some ⟨gR, 0, none⟩) (c + 1) cR) (c + 1) (c + 1) (c + 1) (extF F c ⟨k, x, y, t, u⟩) m2) := (HJ3.out.keep (by repeat (first | (with_reducible exact grown_refl _ none) | (with_reducible refine grown_alloc ?_ _) | (with_reducible refine grown_drew ?_)))).pushR ho4 hg4 hat4 (by rw [HM2.out]); have HW4 : Hid (Below w.heap.size w w4) := below_row (HB3.out.alloc HB3.out.size _) hg4 (fun g e => Nat.le_trans HwB.out (HJ3.out.r.lt e).1) (Nat.le_trans HB3.out.size (grown_size (grown_alloc (grown_refl w5 none) _))); have HB4 : Hid (B ≤ w4.heap.size) := Nat.le_trans HS3.out (Nat.le_trans (grown_size (grown_alloc (grown_refl w5 none) _)) (grown_size hg4)); clear ho4 hg4 hat4))
          go_roundw
          case rel => exact ⟨j + 1, c + 1, extF F c ⟨k, x, y, t, u⟩, by omega, by omega, by go_num, ext_acc HA.out HAC.out, by rw [HM2.out]; exact HJ4, HB4, HW4⟩
          case measure => simp [intOf]; omega
        · have HBAD : Hid (¬ May x y t) := hm
          clear hm HN
          go_wp2_with (go_at_call 21; refine (put_bad _ bw z m x y t HBAD.out).mono ?_; rintro e w2 ⟨rfl, rfl⟩)
          go_roundw
          case rel => exact ⟨j + 1, c, F, by omega, by omega, by go_num, HA, by rw [HM.out]; exact HJ.out.keep (by repeat (first | (with_reducible exact grown_refl _ none) | (with_reducible refine grown_alloc ?_ _) | (with_reducible refine grown_drew ?_))), Nat.le_trans HBr.out (grown_size (grown_alloc (grown_refl wr none) _)), HB.out.alloc HB.out.size _⟩
          case measure => simp [intOf]; omega
      · by_cases hm : 0 ≤ y ∧ y ≤ 16 ∧ u < 2 ^ y.toNat
        · obtain ⟨l, rfl⟩ : ∃ l : Nat, y = l := ⟨y.toNat, by omega⟩
          have HMAY : Hid (MayRaw u l) := hm
          have HAC : Hid (Acc ⟨k, x, l, t, u⟩) := ⟨HOK.out, fun h => absurd h hk, fun _ => hm⟩
          have HM2 : Hid (Mk (extF F c ⟨k, x, l, t, u⟩) (c + 1) = Mo.raw l u m) := by
            show _ = _
            rw [ext_mk, HM.out]; unfold Mo.op; rw [if_neg hk]; unfold Mo.rawU; rw [if_pos hm]; rfl
          have hn2 := raw_nR l u m
          have hl16 : l ≤ 16 := by omega
          obtain ⟨m2, hm2⟩ : ∃ m2, Mo.raw l u m = m2 := ⟨_, rfl⟩
          rw [hm2] at HM2 hn2
          have HP2 : Hid (Mo.raw l u m = m2) := hm2
          have nm2 : m2.nD ≤ 700000 := by omega
          have nk2 : m2.nR ≤ 700000 := by omega
          clear hm hm2 hn2 HN
          go_wp2_with (first
            | (go_at_call 22; refine (raw_wr _ bw z m u l z1 nm nk u0 u1 HMAY (show WrAt _ _ z m from WrAt.kept (row := none) HJ.out.wr (by repeat (first | (with_reducible exact grown_refl _ none) | (with_reducible refine grown_alloc ?_ _) | (with_reducible refine grown_drew ?_))) (by simp))).mono ?_; rw [HP2.out]; rintro e wa ⟨rfl, HWa, HBa⟩; have hcs := var_cell HBa (heap_alloc_new _ _) (by have := HLW.out; omega); have d0 := row_cell hcs 0 rfl; have d1 := row_cell hcs 1 rfl; have d2 := row_cell hcs 2 rfl; have d3 := row_cell hcs 3 rfl; have d4 := row_cell hcs 4 rfl; clear hcs; have HJa : Hid (BackJ wa B bw z u9 u7 u8 c c c (extF F c ⟨k, x, l, t, u⟩) m2) := ((HJ.out.keep (by repeat (first | (with_reducible exact grown_refl _ none) | (with_reducible refine grown_alloc ?_ _) | (with_reducible refine grown_drew ?_)))).put HWa HBa).congr (n := c) (Nat.le_refl _) (Nat.le_refl _) (Nat.le_refl _) (extF_old F c _); have HBwa : Hid (Below w.heap.size w wa) := below_grown (HB.out.alloc HB.out.size _) HBa HS.out (Nat.le_trans HB.out.size (grown_size (grown_alloc (grown_refl wr none) _))); have HSa : Hid (B ≤ wa.heap.size) := Nat.le_trans HBr.out (Nat.le_trans (grown_size (grown_alloc (grown_refl wr none) _)) (grown_size HBa)); clear HWa HBa)
            | (at_builtin; refine wpList_push5 rfl (.tmp 64) (.tmp 66) rfl B u9 c (extF F c ⟨k, x, l, t, u⟩) rfl (HJa.out.keep (by repeat (first | (with_reducible exact grown_refl _ none) | (with_reducible refine grown_alloc ?_ _) | (with_reducible refine grown_drew ?_)))).p wa.heap.size ⟨k, x, l, t, u⟩ rfl (heap_alloc_new wa _) (by omega) (Nat.le_trans HSa.out (grown_size (grown_alloc (grown_refl wa none) _))) ?_; intro gP cP w2 ho2 hg2 hat2 _; have HJ2 : Hid (BackJ w2 B bw z (.slice (some ⟨gP, 0, none⟩) (c + 1) cP) u7 u8 (c + 1) c c (extF F c ⟨k, x, l, t, u⟩) m2) := (HJa.out.keep (by repeat (first | (with_reducible exact grown_refl _ none) | (with_reducible refine grown_alloc ?_ _) | (with_reducible refine grown_drew ?_)))).pushP (by rw [extF_at]; exact ho2) hg2 hat2; have HB2 : Hid (Below w.heap.size w w2) := below_row (HBwa.out.alloc HBwa.out.size _) hg2 (fun g e => Nat.le_trans HwB.out (HJa.out.p.lt g e).1) (Nat.le_trans HBwa.out.size (grown_size (grown_alloc (grown_refl wa none) _))); have HS2 : Hid (B ≤ w2.heap.size) := Nat.le_trans HSa.out (Nat.le_trans (grown_size (grown_alloc (grown_refl wa none) _)) (grown_size hg2)); clear ho2 hg2 hat2)
            | (go_at_call 23; refine (left_wr w2 bw z m2 z1 nm2 nk2 HJ2.out.wr).mono ?_; rintro e w5 ⟨rfl, rfl⟩)
            | (at_builtin; refine wpList_pushI rfl (.tmp 68) (.tmp 71) rfl B u7 c _ rfl (HJ2.out.keep (by repeat (first | (with_reducible exact grown_refl _ none) | (with_reducible refine grown_alloc ?_ _) | (with_reducible refine grown_drew ?_)))).l w2.heap.size (m2.left z) rfl (heap_alloc_new w2.drew _) (by omega) (Nat.le_trans HS2.out (grown_size (grown_alloc (grown_drew (grown_refl w2 none)) _))) ?_; intro gL cL w3 ho3 hg3 hat3 _; have HJ3 : Hid (BackJ w3 B bw z (.slice (some ⟨gP, 0, none⟩) (c + 1) cP) (.slice (some ⟨gL, 0, none⟩) (c + 1) cL) u8 (c + 1) (c + 1) c (extF F c ⟨k, x, l, t, u⟩) m2) := (HJ2.out.keep (by repeat (first | (with_reducible exact grown_refl _ none) | (with_reducible refine grown_alloc ?_ _) | (with_reducible refine grown_drew ?_)))).pushL ho3 hg3 hat3 (by rw [HM2.out]); have HB3 : Hid (Below w.heap.size w w3) := below_row (HB2.out.drew.alloc HB2.out.size _) hg3 (fun g e => Nat.le_trans HwB.out (HJ2.out.l.lt e).1) (Nat.le_trans HB2.out.size (grown_size (grown_alloc (grown_drew (grown_refl w2 none)) _))); have HS3 : Hid (B ≤ w3.heap.size) := Nat.le_trans HS2.out (Nat.le_trans (grown_size (grown_alloc (grown_drew (grown_refl w2 none)) _)) (grown_size hg3)); clear ho3 hg3 hat3)
            | (go_at_call 24; refine (rng_wr w3 bw z m2 HJ3.out.wr).mono ?_; rintro e w5 ⟨rfl, rfl⟩)
            | (at_builtin; refine wpList_pushU rfl (.tmp 73) (.tmp 76) rfl B u8 c _ rfl (HJ3.out.keep (by repeat (first | (with_reducible exact grown_refl _ none) | (with_reducible refine grown_alloc ?_ _) | (with_reducible refine grown_drew ?_)))).r w5.heap.size m2.rng rfl (heap_alloc_new w5 _) (by omega) (Nat.le_trans HS3.out (grown_size (grown_alloc (grown_refl w5 none) _))) ?_; intro gR cR w4 ho4 hg4 hat4 _; have HJ4 : Hid (BackJ w4 B bw z (.slice (some ⟨gP, 0, none⟩) (c + 1) cP) (.slice (some ⟨gL, 0, none⟩) (c + 1) cL) (.slice (some ⟨gR, 0, none⟩) (c + 1) cR) (c + 1) (c + 1) (c + 1) (extF F c ⟨k, x, l, t, u⟩) m2) := (HJ3.out.keep (by repeat (first | (with_reducible exact grown_refl _ none) | (with_reducible refine grown_alloc ?_ _) | (with_reducible refine grown_drew ?_)))).pushR ho4 hg4 hat4 (by rw [HM2.out]); have HW4 : Hid (Below w.heap.size w w4) := below_row (HB3.out.alloc HB3.out.size _) hg4 (fun g e => Nat.le_trans HwB.out (HJ3.out.r.lt e).1) (Nat.le_trans HB3.out.size (grown_size (grown_alloc (grown_refl w5 none) _))); have HB4 : Hid (B ≤ w4.heap.size) := Nat.le_trans HS3.out (Nat.le_trans (grown_size (grown_alloc (grown_refl w5 none) _)) (grown_size hg4)); clear ho4 hg4 hat4))
          go_roundw
          case rel => exact ⟨j + 1, c + 1, extF F c ⟨k, x, l, t, u⟩, by omega, by omega, by go_num, ext_acc HA.out HAC.out, by rw [HM2.out]; exact HJ4, HB4, HW4⟩
          case measure => simp [intOf]; omega
        · have HBAD : Hid (¬ MayRaw u y) := hm
          clear hm HN
          go_wp2_with (go_at_call 22; refine (raw_bad _ bw u y u0 u1 HBAD.out).mono ?_; rintro e w2 ⟨rfl, rfl⟩)
          go_roundw
          case rel => exact ⟨j + 1, c, F, by omega, by omega, by go_num, HA, by rw [HM.out]; exact HJ.out.keep (by repeat (first | (with_reducible exact grown_refl _ none) | (with_reducible refine grown_alloc ?_ _) | (with_reducible refine grown_drew ?_))), Nat.le_trans HBr.out (grown_size (grown_alloc (grown_refl wr none) _)), HB.out.alloc HB.out.size _⟩
          case measure => simp [intOf]; omega
    · have e : j = n := by omega
      subst e
      clear hlt
      have HN := mk_n F c
      have nm : (Mk F c).nD ≤ 700000 := by omega
      have nk : (Mk F c).nR ≤ 700000 := by omega
      obtain ⟨aL, cL, rfl, _, _, _⟩ := HJ.out.l.slice
      obtain ⟨aR, cR, rfl, _, _, _⟩ := HJ.out.r.slice
      obtain ⟨aP, cP, rfl⟩ := row_slice HJ.out.p
      have ci : (c : Int) ≤ 200 := by omega
      by_cases hl : 0 ≤ (Mk F c).left z
      · have HL : Hid _ := hl
        clear HN
        have HPX : Hid (Bx z (fun i => if i < z then (Mk F c).pk z i else 0)) := ⟨fun i => by
            show 0 ≤ (if i < z then (Mk F c).pk z i else 0) ∧ (if i < z then (Mk F c).pk z i else 0) ≤ 255
            by_cases hi : i < z
            · rw [if_pos hi]; exact pk_bd (mk_good F c).ok hl hi
            · rw [if_neg hi]; exact ⟨Int.le_refl _, by decide⟩, fun i hi => if_neg (by omega)⟩
        have HPE : Hid (∀ i, i < z → (fun i => if i < z then (Mk F c).pk z i else 0) i = (Mk F c).pk z i) := fun i hi => if_pos hi
        obtain ⟨p, hpd⟩ : ∃ p : Nat → Int, (fun i => if i < z then (Mk F c).pk z i else 0) = p := ⟨_, rfl⟩
        rw [hpd] at HPX HPE
        clear hpd
        have HNEW : Hid (Re.new p = Re.at (Mk F 0) (Mk F c)) := back_new (mk_good F c).ok hl HPE.out
        go_wp2_with (first
          | (go_at_call 25; refine (done_wr wr bw z (Mk F c) z0 z1 nk hl HJ.out.wr).mono ?_; rintro e w3 ⟨gD, rfl, hgD, HP, HB3⟩; have HI3 : Hid (IntsAt w3 (some ⟨gD, 0, none⟩) z .u8 p) := (fun i hi => ⟨gD, 0, rfl, (by rw [Nat.zero_add, HPE.out i hi]; exact HP.cell hi)⟩); have HJ3 : Hid (BackJ w3 B bw z (.slice aP c cP) (.slice aL c cL) (.slice aR c cR) c c c F (Mk F c)) := HJ.out.keep (grown_below HB3 none); have HW3 : Hid (Below w.heap.size w w3) := HB.out.trans (HB3.mono HB.out.size); clear HP HB3 hgD)
          | (go_at_call 9; refine (rdnew w3 (some ⟨gD, 0, none⟩) z z p (by omega) HPX HI3).mono ?_; rw [HNEW.out]; rintro e w4 ⟨bx, rfl, HX, HB4⟩; replace HX : Hid (RdAt w4 w3.heap.size w4.heap.size bx z p (Re.at (Mk F 0) (Mk F c))) := HX; have HJ4 : Hid (BackJ w4 B bw z (.slice aP c cP) (.slice aL c cL) (.slice aR c cR) c c c F (Mk F c)) := HJ3.out.keep (grown_below HB4 none); have HW4 : Hid (Below w.heap.size w w4) := HW3.out.trans (HB4.mono HW3.out.size); have HX3 : Hid (w.heap.size ≤ w3.heap.size) := HW3.out.size; clear HB4))
        have HU : Hid (Under w3.heap.size bw (.slice aP c cP) (.slice aL c cL) (.slice aR c cR)) := HJ3.out.under
        generalize w3.heap.size = lo at *
        generalize hh4 : w4.heap.size = hi' at *
        clear HJ HJ3 HW3 HB HI3 hh4 HBr
        have HLX : Hid (lo ≤ bx) := HX.out.lt.1
        have hA := HA.out
        have HACC : Hid (∀ q, q < c → Acc (F q)) := hA
        clear hA HA HJ1 HBs HBW
        go_loopw [102] (fun i wr => ∃ q : Nat, q ≤ c ∧ i = .int .i64 q ∧ Hid (RdAt wr lo hi' bx z p (Re.at (Mk F q) (Mk F c))) ∧ Hid (BackJ wr B bw z (.slice aP c cP) (.slice aL c cL) (.slice aR c cR) c c c F (Mk F c)) ∧ Hid (Below w.heap.size w wr)) (fun i _ => c - (intOf i).toNat)
        case atStart => exact ⟨0, Nat.zero_le _, rfl, HX, HJ4, HW4⟩
        case round =>
          obtain ⟨q, hq, rfl, HX, HJ, HB⟩ := hrel
          by_cases hqc : q < c
          · have hqc' : (q : Int) < c := by omega
            have q0 : ¬ ((q : Int) < 0) := by omega
            obtain ⟨gP, capP, e, _, _⟩ := HJ.out.p.form (by omega)
            cases e
            obtain ⟨gL, capL, e, _, _, _, _⟩ := HJ.out.l.form (by omega)
            cases e
            obtain ⟨gR, capR, e, _, _, _, _⟩ := HJ.out.r.form (by omega)
            cases e
            have HAQ : Hid (Acc (F q)) := HACC.out q hqc
            have r0 := HJ.out.op hqc 0 (by decide)
            have r1 := HJ.out.op hqc 1 (by decide)
            have r2 := HJ.out.op hqc 2 (by decide)
            have r3 := HJ.out.op hqc 3 (by decide)
            have r4 := HJ.out.op hqc 4 (by decide)
            rw [Nat.add_zero] at r0
            have HPUT : Hid ((F q).k % 2 = 0 → (Re.at (Mk F q) (Mk F c)).take p (F q).a (F q).b (F q).t = Re.at (Mk F (q + 1)) (Mk F c) ∧ (F q).a ≤ (Re.at (Mk F q) (Mk F c)).get (F q).t ∧ (Re.at (Mk F q) (Mk F c)).get (F q).t < (F q).b) := fun hk => back_put HACC.out HL.out HPE.out hqc hk
            have HRAW : Hid (¬ (F q).k % 2 = 0 → rsum z p (Mk F q).nR (rawK (F q).b) = (F q).x ∧ (Re.at (Mk F q) (Mk F c)).raw (rawK (F q).b) = Re.at (Mk F (q + 1)) (Mk F c)) := fun hk => back_raw HACC.out HL.out HPE.out hqc hk
            have hnq := mk_n F q
            have hnq1 := mk_n F (q + 1)
            have HG : Hid (Re.at (Mk F q) (Mk F c)).Good := at_good (mk_good F q) (mk_in HACC.out (c - q) q (by omega))
            have HG2 : Hid (Re.at (Mk F (q + 1)) (Mk F c)).Good := at_good (mk_good F (q + 1)) (mk_in HACC.out (c - (q + 1)) (q + 1) (by omega))
            have HEL : Hid ((Re.at (Mk F (q + 1)) (Mk F c)).left z = (Mk F (q + 1)).left z) := rfl
            have HER : Hid ((Re.at (Mk F (q + 1)) (Mk F c)).rng = (Mk F (q + 1)).rng) := rfl
            have t1 : (Re.at (Mk F q) (Mk F c)).tk ≤ 800000 := by show (Mk F q).nD ≤ _; omega
            have t9 : (Re.at (Mk F q) (Mk F c)).nb ≤ 700000 := by show (Mk F q).nR ≤ _; omega
            have t2 : (Re.at (Mk F (q + 1)) (Mk F c)).tk ≤ 900000 := by show (Mk F (q + 1)).nD ≤ _; omega
            have t3 : (Re.at (Mk F (q + 1)) (Mk F c)).nb ≤ 900000 := by show (Mk F (q + 1)).nR ≤ _; omega
            have HNB : Hid ((Mk F q).nR = (Re.at (Mk F q) (Mk F c)).nb) := rfl
            rw [HNB.out] at HRAW
            clear hnq hnq1 HNB
            have HLW := HX.out.lt
            have HLB : Hid (lo ≤ bx ∧ bx < hi' ∧ bx < wr.heap.size) := HLW
            clear HLW
            obtain ⟨lz, hlz⟩ : ∃ lz, (Mk F (q + 1)).left z = lz := ⟨_, rfl⟩
            obtain ⟨rz, hrz⟩ : ∃ rz, (Mk F (q + 1)).rng = rz := ⟨_, rfl⟩
            rw [hlz] at HEL
            rw [hrz] at HER
            have HLL : Hid (∀ wx, BackJ wx B bw z (.slice (some ⟨gP, 0, none⟩) c cP) (.slice (some ⟨gL, 0, none⟩) c cL) (.slice (some ⟨gR, 0, none⟩) c cR) c c c F (Mk F c) → wx.cell? ⟨gL, q, none⟩ = some (.int .i64 lz) ∧ wx.cell? ⟨gR, q, none⟩ = some (.int .u32 rz)) := fun wx hx => ⟨(hx.l.cell hqc).trans (by rw [hlz]), (hx.r.cell hqc).trans (by rw [hrz])⟩
            clear hlz hrz
            generalize F q = o at HAQ r0 r1 r2 r3 r4 HPUT HRAW
            obtain ⟨m, hm⟩ : ∃ m, Re.at (Mk F q) (Mk F c) = m := ⟨_, rfl⟩
            obtain ⟨m2, hm2⟩ : ∃ m2, Re.at (Mk F (q + 1)) (Mk F c) = m2 := ⟨_, rfl⟩
            rw [hm] at HX HPUT HRAW HG t1 t9
            rw [hm2] at HPUT HRAW HG2 HEL HER t2 t3
            have HM2 : Hid (Re.at (Mk F (q + 1)) (Mk F c) = m2) := hm2
            clear hm hm2
            obtain ⟨k, x, y, t, u⟩ := o
            replace r0 : wr.cell? ⟨gP, q * 5, none⟩ = some (.int .u8 k) := r0
            replace r1 : wr.cell? ⟨gP, q * 5 + 1, none⟩ = some (.int .i64 x) := r1
            replace r2 : wr.cell? ⟨gP, q * 5 + 2, none⟩ = some (.int .i64 y) := r2
            replace r3 : wr.cell? ⟨gP, q * 5 + 3, none⟩ = some (.int .i64 t) := r3
            replace r4 : wr.cell? ⟨gP, q * 5 + 4, none⟩ = some (.int .u32 u) := r4
            have k0 : 0 ≤ k := HAQ.out.ok.k0
            have k255 : k ≤ 255 := HAQ.out.ok.k1
            have ek : Int.tmod k 2 = k % 2 := Int.tmod_eq_emod_of_nonneg k0
            by_cases hk : k % 2 = 0
            · have HMAY : Hid (May x y t) := HAQ.out.p hk
              obtain ⟨p1, p2, p3⟩ := HPUT.out hk
              simp only at p1 p2 p3
              obtain ⟨a0, ab, bt, tt⟩ := HMAY.out
              have HGT : Hid (m.getU t = m.get t) := if_pos ⟨by omega, tt⟩
              obtain ⟨sg, hsg⟩ : ∃ sg, m.get t = sg := ⟨_, rfl⟩
              rw [hsg] at p2 p3
              have HSG : Hid (m.getU t = sg) := by rw [HGT.out]; exact hsg
              have HP1 : Hid (m.take p x y t = m2) := p1
              have p2' : ¬ sg < x := by omega
              have p3' : ¬ y ≤ sg := by omega
              clear p1 hsg HGT
              go_wp2_with (first
                | (go_at_call 11; refine (rdget _ lo hi' bx z p m t HG (RdAt.keep (b := bx) HX.out (by repeat (first | (with_reducible exact grown_refl _ none) | (with_reducible refine grown_alloc ?_ _) | (with_reducible refine grown_drew ?_))))).mono ?_; rw [HSG.out]; rintro e w5 ⟨rfl, rfl⟩)
                | (go_at_call 13; refine (rdtake _ lo hi' bx z p m x y t (by omega) t1 HPX HG HMAY (RdAt.keep (b := bx) HX.out (by repeat (first | (with_reducible exact grown_refl _ none) | (with_reducible refine grown_alloc ?_ _) | (with_reducible refine grown_drew ?_))))).mono ?_; rw [HP1.out]; rintro e wz ⟨rfl, HXz, HBz⟩; replace HXz : Hid (RdAt wz lo hi' bx z p m2) := HXz; have HJz : Hid (BackJ wz B bw z (.slice (some ⟨gP, 0, none⟩) c cP) (.slice (some ⟨gL, 0, none⟩) c cL) (.slice (some ⟨gR, 0, none⟩) c cR) c c c F (Mk F c)) := (HJ.out.keep (by repeat (first | (with_reducible exact grown_refl _ none) | (with_reducible refine grown_alloc ?_ _) | (with_reducible refine grown_drew ?_)))).keepU HU.out HBz HLB.out.1; have HWz : Hid (Below w.heap.size w wz) := below_grown (HB.out.alloc HB.out.size _) HBz (Nat.le_trans HX3.out HLB.out.1) (Nat.le_trans HB.out.size (grown_size (grown_alloc (grown_refl wr none) _))); clear HBz))
              have cl := (HLL.out _ HJz.out).1
              have cr := (HLL.out _ HJz.out).2
              go_quiet (first
                | (go_at_call 17; refine (rdleft _ lo hi' bx z p m2 (by omega) t2 t3 (RdAt.keep HXz.out (grown_bN _ _))).mono ?_; rw [HEL.out]; rintro e w5 ⟨rfl, rfl⟩; exact ⟨rfl, bdrew_ex _ _⟩)
                | (go_at_call 19; refine (rdrng _ lo hi' bx z p m2 (RdAt.keep HXz.out (grown_bN _ _))).mono ?_; rw [HER.out]; rintro e w5 ⟨rfl, rfl⟩; exact ⟨rfl, _, rfl⟩))
              go_wp2
              go_roundw
              case rel => exact ⟨q + 1, by omega, by go_num, by rw [HM2.out]; exact RdAt.keep HXz.out (grown_bN _ _), HJz.out.keep (grown_bN _ _), below_bN HWz.out _⟩
              case measure => simp [intOf]; omega
            · obtain ⟨p1, p2⟩ := HRAW.out hk
              simp only at p1 p2
              have HP1 : Hid (rsum z p m.nb (rawK y) = u) := p1
              have HP2 : Hid (m.raw (rawK y) = m2) := p2
              have hk' : (k % 2 == 0) = false := by simp; omega
              clear p1 p2
              go_wp2
              go_region_with (first
                | (go_at_call 15; refine (rdraw _ lo hi' bx z p m y (by omega) t9 HPX (by exact RdAt.keep (b := bx) HX.out (by repeat (first | (with_reducible exact grown_refl _ none) | (with_reducible refine grown_alloc ?_ _) | (with_reducible refine grown_drew ?_))))).mono ?_; rw [HP1.out, HP2.out]; rintro e wz ⟨rfl, HXz, HBz⟩; replace HXz : Hid (RdAt wz lo hi' bx z p m2) := HXz; have o4 := row_cell (var_cell HBz (show (wr.alloc (.cells #[.int .u8 k, .int .i64 x, .int .i64 y, .int .i64 t, .int .u32 u] 49)).drew.heap[wr.heap.size]? = _ from heap_alloc_new wr _) (by have := HLB.out; omega)) 4 rfl; have HJz : Hid (BackJ wz B bw z (.slice (some ⟨gP, 0, none⟩) c cP) (.slice (some ⟨gL, 0, none⟩) c cL) (.slice (some ⟨gR, 0, none⟩) c cR) c c c F (Mk F c)) := (HJ.out.keep (by repeat (first | (with_reducible exact grown_refl _ none) | (with_reducible refine grown_alloc ?_ _) | (with_reducible refine grown_drew ?_)))).keepU HU.out HBz HLB.out.1; have HWz : Hid (Below w.heap.size w wz) := below_grown (HB.out.alloc HB.out.size _).drew HBz (Nat.le_trans HX3.out HLB.out.1) (Nat.le_trans HB.out.size (grown_size (grown_drew (grown_alloc (grown_refl wr none) _)))); clear HBz))
              all_goals (
                go_wp2
                have cl := (HLL.out _ HJz.out).1
                have cr := (HLL.out _ HJz.out).2
                go_quiet (first
                  | (go_at_call 17; refine (rdleft _ lo hi' bx z p m2 (by omega) t2 t3 (RdAt.keep HXz.out (grown_bN _ _))).mono ?_; rw [HEL.out]; rintro e w5 ⟨rfl, rfl⟩; exact ⟨rfl, bdrew_ex _ _⟩)
                  | (go_at_call 19; refine (rdrng _ lo hi' bx z p m2 (RdAt.keep HXz.out (grown_bN _ _))).mono ?_; rw [HER.out]; rintro e w5 ⟨rfl, rfl⟩; exact ⟨rfl, _, rfl⟩))
                go_wp2
                go_roundw
                case rel => exact ⟨q + 1, by omega, by go_num, by rw [HM2.out]; exact RdAt.keep HXz.out (grown_bN _ _), HJz.out.keep (grown_bN _ _), below_bN HWz.out _⟩
                case measure => simp [intOf]; omega)
          · have e : q = c := by omega
            subst e
            clear hqc
            go_wp2
            go_ret
            exact ⟨rfl, HB.out⟩
      · have hl' : (Mk F c).left z < 0 := by omega
        have hc0 : 0 < c := by
          rcases Nat.eq_zero_or_pos c with e | e
          · exfalso
            subst e
            have : (Mk F 0).left z = 8 * (z : Int) - 8 * 3 - 0 := rfl
            omega
          · exact e
        obtain ⟨c', rfl⟩ : ∃ c', c = c' + 1 := ⟨c - 1, by omega⟩
        obtain ⟨gL, capL, e, _, _, _, _⟩ := HJ.out.l.form (by omega)
        cases e
        have cl := HJ.out.l.cell (j := c') (by omega)
        have cl' : (Mk F (c' + 1)).left z < 0 := hl'
        clear HN hl
        go_wp2_with (go_at_call 25; refine (done_full wr bw z (Mk F (c' + 1)) z1 nm nk hl' HJ.out.wr).mono ?_; rintro e w5 ⟨rfl, rfl⟩)
        go_ret
        exact ⟨rfl, HB.out.drew⟩

end Go.Proofs.Ytdbhonebgeeioaa
