/-
  The law SwiftBack of layer 8 as a walk: it returns true, and nothing that was there has turned.
-/
import Derived.Test.YtiejdlapgppbkaaDoorSwiftBackMem
import Derived.Test.YtiejdlapgppbkaaDoorSwiftCalls4
namespace Go.Proofs.YtiejdlapgppbkaaDoor
set_option linter.unusedVariables false
open Go.ChangeShapes Go.WideShapes Go.ChangeAt Go.RowKit

theorem sback_long (s : Int) (ao : Option Addr) (n cap : Nat) (w : World) (hn : 200 < n) (hT : Hid (Tz w)) :
    Calls Tryd.prog 6 #[.int .u16 s, .slice ao n cap] w fun e w' => e = .returned (.bool true) ∧ Below w.heap.size w w' := by
  have hn' : (200 : Int) < (n : Int) := by omega
  go_enter Tryd.func6, Tryd.ntmps6
  go_wp2_with (go_at_call 8; refine (sawake _ hT).mono ?_; rintro e W0 ⟨rfl, hB0⟩)
  go_ret
  exact ⟨rfl, hB0⟩

theorem row_slice {w : World} {B : Nat} {e : TypeId} {s : Nat} {v : Value} {n : Nat} {xs : List Value} (h : w.ownsRow B e s v n xs) : ∃ ao cap, v = .slice ao n cap := by
  rcases h.2 with ⟨rfl, rfl⟩ | ⟨g, cap, cur, rfl, _⟩
  · exact ⟨none, 0, rfl⟩
  · exact ⟨_, cap, rfl⟩
/-- The list of calls, with one more. -/
def extF (F : Nat → Opv) (c : Nat) (o : Opv) : Nat → Opv := fun q => if q = c then o else F q
theorem extF_at (F : Nat → Opv) (c : Nat) (o : Opv) : extF F c o c = o := if_pos rfl
theorem extF_old (F : Nat → Opv) (c : Nat) (o : Opv) (i : Nat) (h : i < c) : F i = extF F c o i := (if_neg (by omega)).symm
theorem ext_acc {F : Nat → Opv} {c : Nat} {o : Opv} (h : ∀ q, q < c → Acc (F q)) (ho : Acc o) : ∀ q, q < c + 1 → Acc (extF F c o q) := by
  intro q hq
  by_cases e : q = c
  · subst e; rw [extF_at]; exact ho
  · rw [← extF_old F c o q (by omega)]; exact h q (by omega)
theorem ext_mk (F : Nat → Opv) (c : Nat) (o : Opv) : Mk (extF F c o) (c + 1) = (Mk F c).op o := by
  rw [mk_succ, extF_at, ← mk_congr (extF_old F c o)]

set_option maxHeartbeats 8000000 in
set_option maxRecDepth 20000 in
theorem sback_any (s : Int) (s0 : 0 ≤ s) (s1 : s < 65536) (ao : Option Addr) (n cap : Nat) (f : Nat → Opv) (w : World) (hn : n ≤ 200) (hf : Hid (OpsAt w ao n f)) (hT : Hid (Tz w)) :
    Calls Tryd.prog 6 #[.int .u16 s, .slice ao n cap] w fun e w' => e = .returned (.bool true) ∧ Below w.heap.size w w' := by
  have hn' : (n : Int) ≤ 200 := by omega
  have e1 : Int.tmod s 1272 = s % 1272 := Int.tmod_eq_emod_of_nonneg s0
  obtain ⟨z, hz⟩ : ∃ z : Nat, 4 + s % 1272 = z := ⟨(4 + s % 1272).toNat, by omega⟩
  have z0 : 4 ≤ z := by omega
  have z1 : z ≤ 1275 := by omega
  go_enter Tryd.func6, Tryd.ntmps6
  go_wp2_with (first
    | (go_at_call 8; refine (sawake _ hT).mono ?_; rintro e W0 ⟨rfl, HB0⟩; replace HB0 : Hid (Below w.heap.size w W0) := HB0)
    | (go_at_call 28; refine (new_any W0 z z0 z1).mono ?_; rintro e w1 ⟨rfl, HW1, HB1⟩; replace HW1 : Hid (WrAt w1 W0.heap.size z Mo.new) := HW1; replace HB1 : Hid (Below W0.heap.size W0 w1) := HB1))
  have HS : Hid (w.heap.size ≤ W0.heap.size) := HB0.out.size
  have HLT : Hid (W0.heap.size < w1.heap.size) := HW1.out.lt
  have HBW : Hid (Below w.heap.size w w1) := HB0.out.trans (HB1.out.mono HB0.out.size)
  have HJ1 : Hid (BackS w1 w1.heap.size W0.heap.size z (.slice none 0 0) 0 (fun _ => ⟨0, 0, 0, 0, 0⟩) (Mk (fun _ => ⟨0, 0, 0, 0, 0⟩) 0)) := BackS.new HW1.out HLT.out
  generalize W0.heap.size = bw at *
  obtain ⟨B, hB⟩ : ∃ B, w1.heap.size = B := ⟨_, rfl⟩
  rw [hB] at HLT HJ1
  have HBs : Hid (B ≤ w1.heap.size) := by rw [hB]; exact Nat.le_refl _
  have HwB : Hid (w.heap.size ≤ B) := Nat.le_trans HS.out (Nat.le_of_lt HLT.out)
  clear hB HW1 HB1 HB0
  go_loopw [7, 38] (fun vP i wr => ∃ (j c : Nat) (F : Nat → Opv), j ≤ n ∧ c ≤ j ∧ i = .int .i64 j ∧ Hid (∀ q, q < c → Acc (F q)) ∧ Hid (BackS wr B bw z vP c F (Mk F c)) ∧ Hid (B ≤ wr.heap.size) ∧ Hid (Below w.heap.size w wr)) (fun _ i _ => n - (intOf i).toNat)
  case atStart => exact ⟨0, 0, _, by omega, by omega, rfl, fun q hq => by omega, HJ1, HBs, HBW⟩
  case round =>
    obtain ⟨j, c, F, hj, hc, rfl, HA, HJ, HBr, HB⟩ := hrel
    by_cases hlt : j < n
    · have hlt' : (j : Int) < n := by omega
      obtain ⟨bo, off, rfl, c0, c1, c2, c3, c4, ho⟩ := (hf.out.below HB.out) j hlt
      generalize f j = o at *
      obtain ⟨k, x, y, t, u⟩ := o
      simp only at c0 c1 c2 c3 c4
      obtain ⟨k0, k1, u0, u1⟩ : 0 ≤ k ∧ k ≤ 255 ∧ 0 ≤ u ∧ u < 4294967296 := ⟨ho.k0, ho.k1, ho.x0, ho.x1⟩
      have HOK : Hid (Opv.Ok ⟨k, x, y, t, u⟩) := ho
      clear ho
      have HN := mk_n F c
      have HG : Hid (Mk F c).Good := mk_good F c
      obtain ⟨m, hm⟩ : ∃ m, Mk F c = m := ⟨_, rfl⟩
      rw [hm] at HJ HN HG
      have HM : Hid (Mk F c = m) := hm
      clear hm
      have nm : m.nD ≤ 600000 := by omega
      have nk : m.nR ≤ 600000 := by omega
      have HLW : Hid (bw < wr.heap.size) := HJ.out.wr.lt
      have ek : Int.tmod k 2 = k % 2 := Int.tmod_eq_emod_of_nonneg k0
      by_cases hk : k % 2 = 0
      · by_cases hm : 0 ≤ x ∧ x < y ∧ y ≤ t ∧ t ≤ 4096
        · have HMAY : Hid (May x y t) := hm
          have HAC : Hid (Acc ⟨k, x, y, t, u⟩) := ⟨HOK.out, fun _ => hm, fun h => absurd hk h⟩
          have HM2 : Hid (Mk (extF F c ⟨k, x, y, t, u⟩) (c + 1) = m.put x y t) := by
            show _ = _
            rw [ext_mk, HM.out]; unfold Mo.op; rw [if_pos hk]; unfold Mo.putU; rw [if_pos hm]
          obtain ⟨m2, hm2⟩ : ∃ m2, m.put x y t = m2 := ⟨_, rfl⟩
          rw [hm2] at HM2
          have HP2 : Hid (m.put x y t = m2) := hm2
          clear hm hm2 HN
          go_wp2_with (first
            | (go_at_call 29; refine (put_wr _ bw z m x y t z1 nm nk HG HMAY (show WrAt _ _ z m from WrAt.kept (row := none) HJ.out.wr (by repeat (first | (with_reducible exact grown_refl _ none) | (with_reducible refine grown_alloc ?_ _) | (with_reducible refine grown_drew ?_))) (by simp))).mono ?_; rw [HP2.out]; rintro e wa ⟨rfl, HWa, HBa⟩; have hcs := var_cell HBa (heap_alloc_new _ _) (by have := HLW.out; omega); have d0 := row_cell hcs 0 rfl; have d1 := row_cell hcs 1 rfl; have d2 := row_cell hcs 2 rfl; have d3 := row_cell hcs 3 rfl; have d4 := row_cell hcs 4 rfl; clear hcs; have HJa : Hid (BackS wa B bw z u7 c (extF F c ⟨k, x, y, t, u⟩) m2) := ((HJ.out.keep (by repeat (first | (with_reducible exact grown_refl _ none) | (with_reducible refine grown_alloc ?_ _) | (with_reducible refine grown_drew ?_)))).put HWa HBa).congr (extF_old F c _); have HBwa : Hid (Below w.heap.size w wa) := below_grown (HB.out.alloc HB.out.size _) HBa HS.out (Nat.le_trans HB.out.size (grown_size (grown_alloc (grown_refl wr none) _))); have HSa : Hid (B ≤ wa.heap.size) := Nat.le_trans HBr.out (Nat.le_trans (grown_size (grown_alloc (grown_refl wr none) _)) (grown_size HBa)); clear HWa HBa)
            | (at_builtin; refine wpList_push5 rfl (.tmp 62) (.tmp 64) rfl B u7 c (extF F c ⟨k, x, y, t, u⟩) rfl (HJa.out.keep (by repeat (first | (with_reducible exact grown_refl _ none) | (with_reducible refine grown_alloc ?_ _) | (with_reducible refine grown_drew ?_)))).p wa.heap.size ⟨k, x, y, t, u⟩ rfl (heap_alloc_new wa _) (by omega) (Nat.le_trans HSa.out (grown_size (grown_alloc (grown_refl wa none) _))) ?_; intro gP cP w2 ho2 hg2 hat2 _; have HJ2 : Hid (BackS w2 B bw z (.slice (some ⟨gP, 0, none⟩) (c + 1) cP) (c + 1) (extF F c ⟨k, x, y, t, u⟩) m2) := (HJa.out.keep (by repeat (first | (with_reducible exact grown_refl _ none) | (with_reducible refine grown_alloc ?_ _) | (with_reducible refine grown_drew ?_)))).pushP (by rw [extF_at]; exact ho2) hg2; have HB2 : Hid (Below w.heap.size w w2) := below_row (HBwa.out.alloc HBwa.out.size _) hg2 (fun g e => Nat.le_trans HwB.out (HJa.out.p.lt g e).1) (Nat.le_trans HBwa.out.size (grown_size (grown_alloc (grown_refl wa none) _))); have HS2 : Hid (B ≤ w2.heap.size) := Nat.le_trans HSa.out (Nat.le_trans (grown_size (grown_alloc (grown_refl wa none) _)) (grown_size hg2)); clear ho2 hg2 hat2))
          go_roundw
          case rel => exact ⟨j + 1, c + 1, extF F c ⟨k, x, y, t, u⟩, by omega, by omega, by go_num, ext_acc HA.out HAC.out, by rw [HM2.out]; exact HJ2, HS2, HB2⟩
          case measure => simp [intOf]; omega
        · have HBAD : Hid (¬ May x y t) := hm
          clear hm HN
          go_wp2_with (go_at_call 29; refine (put_bad _ bw z m x y t HBAD.out).mono ?_; rintro e w2 ⟨rfl, rfl⟩)
          go_roundw
          case rel => exact ⟨j + 1, c, F, by omega, by omega, by go_num, HA, by rw [HM.out]; exact HJ.out.keep (by repeat (first | (with_reducible exact grown_refl _ none) | (with_reducible refine grown_alloc ?_ _) | (with_reducible refine grown_drew ?_))), Nat.le_trans HBr.out (grown_size (grown_alloc (grown_refl wr none) _)), HB.out.alloc HB.out.size _⟩
          case measure => simp [intOf]; omega
      · by_cases hm : 0 ≤ y ∧ y ≤ 16 ∧ u < 2 ^ y.toNat
        · obtain ⟨l, rfl⟩ : ∃ l : Nat, y = l := ⟨y.toNat, by omega⟩
          have HMAY : Hid (MayRaw u l) := hm
          have HAC : Hid (Acc ⟨k, x, l, t, u⟩) := ⟨HOK.out, fun h => absurd h hk, fun _ => hm⟩
          have HM2 : Hid (Mk (extF F c ⟨k, x, l, t, u⟩) (c + 1) = Mo.raw l u m) := by
            show _ = _
            rw [ext_mk, HM.out]; unfold Mo.op; rw [if_neg hk]; unfold Mo.rawU; rw [if_pos hm]; rfl
          obtain ⟨m2, hm2⟩ : ∃ m2, Mo.raw l u m = m2 := ⟨_, rfl⟩
          rw [hm2] at HM2
          have HP2 : Hid (Mo.raw l u m = m2) := hm2
          clear hm hm2 HN
          go_wp2_with (first
            | (go_at_call 30; refine (raw_wr _ bw z m u l z1 nm nk u0 u1 HMAY (show WrAt _ _ z m from WrAt.kept (row := none) HJ.out.wr (by repeat (first | (with_reducible exact grown_refl _ none) | (with_reducible refine grown_alloc ?_ _) | (with_reducible refine grown_drew ?_))) (by simp))).mono ?_; rw [HP2.out]; rintro e wa ⟨rfl, HWa, HBa⟩; have hcs := var_cell HBa (heap_alloc_new _ _) (by have := HLW.out; omega); have d0 := row_cell hcs 0 rfl; have d1 := row_cell hcs 1 rfl; have d2 := row_cell hcs 2 rfl; have d3 := row_cell hcs 3 rfl; have d4 := row_cell hcs 4 rfl; clear hcs; have HJa : Hid (BackS wa B bw z u7 c (extF F c ⟨k, x, l, t, u⟩) m2) := ((HJ.out.keep (by repeat (first | (with_reducible exact grown_refl _ none) | (with_reducible refine grown_alloc ?_ _) | (with_reducible refine grown_drew ?_)))).put HWa HBa).congr (extF_old F c _); have HBwa : Hid (Below w.heap.size w wa) := below_grown (HB.out.alloc HB.out.size _) HBa HS.out (Nat.le_trans HB.out.size (grown_size (grown_alloc (grown_refl wr none) _))); have HSa : Hid (B ≤ wa.heap.size) := Nat.le_trans HBr.out (Nat.le_trans (grown_size (grown_alloc (grown_refl wr none) _)) (grown_size HBa)); clear HWa HBa)
            | (at_builtin; refine wpList_push5 rfl (.tmp 62) (.tmp 64) rfl B u7 c (extF F c ⟨k, x, l, t, u⟩) rfl (HJa.out.keep (by repeat (first | (with_reducible exact grown_refl _ none) | (with_reducible refine grown_alloc ?_ _) | (with_reducible refine grown_drew ?_)))).p wa.heap.size ⟨k, x, l, t, u⟩ rfl (heap_alloc_new wa _) (by omega) (Nat.le_trans HSa.out (grown_size (grown_alloc (grown_refl wa none) _))) ?_; intro gP cP w2 ho2 hg2 hat2 _; have HJ2 : Hid (BackS w2 B bw z (.slice (some ⟨gP, 0, none⟩) (c + 1) cP) (c + 1) (extF F c ⟨k, x, l, t, u⟩) m2) := (HJa.out.keep (by repeat (first | (with_reducible exact grown_refl _ none) | (with_reducible refine grown_alloc ?_ _) | (with_reducible refine grown_drew ?_)))).pushP (by rw [extF_at]; exact ho2) hg2; have HB2 : Hid (Below w.heap.size w w2) := below_row (HBwa.out.alloc HBwa.out.size _) hg2 (fun g e => Nat.le_trans HwB.out (HJa.out.p.lt g e).1) (Nat.le_trans HBwa.out.size (grown_size (grown_alloc (grown_refl wa none) _))); have HS2 : Hid (B ≤ w2.heap.size) := Nat.le_trans HSa.out (Nat.le_trans (grown_size (grown_alloc (grown_refl wa none) _)) (grown_size hg2)); clear ho2 hg2 hat2))
          go_roundw
          case rel => exact ⟨j + 1, c + 1, extF F c ⟨k, x, l, t, u⟩, by omega, by omega, by go_num, ext_acc HA.out HAC.out, by rw [HM2.out]; exact HJ2, HS2, HB2⟩
          case measure => simp [intOf]; omega
        · have HBAD : Hid (¬ MayRaw u y) := hm
          clear hm HN
          go_wp2_with (go_at_call 30; refine (raw_bad _ bw u y u0 u1 HBAD.out).mono ?_; rintro e w2 ⟨rfl, rfl⟩)
          go_roundw
          case rel => exact ⟨j + 1, c, F, by omega, by omega, by go_num, HA, by rw [HM.out]; exact HJ.out.keep (by repeat (first | (with_reducible exact grown_refl _ none) | (with_reducible refine grown_alloc ?_ _) | (with_reducible refine grown_drew ?_))), Nat.le_trans HBr.out (grown_size (grown_alloc (grown_refl wr none) _)), HB.out.alloc HB.out.size _⟩
          case measure => simp [intOf]; omega
    · have e : j = n := by omega
      subst e
      clear hlt
      have HN := mk_n F c
      have nm : (Mk F c).nD ≤ 700000 := by omega
      have nk : (Mk F c).nR ≤ 700000 := by omega
      obtain ⟨aP, cP, rfl⟩ := row_slice HJ.out.p
      have ci : (c : Int) ≤ 200 := by omega
      by_cases hl : 0 ≤ (Mk F c).left z
      · have HL : Hid _ := hl
        clear HN
        have HPX : Hid (Bx z (fun i => if i < z then (Mk F c).pk z i else 0)) := ⟨fun i => by
            show 0 ≤ (if i < z then (Mk F c).pk z i else 0) ∧ (if i < z then (Mk F c).pk z i else 0) ≤ 255
            by_cases hi : i < z
            · rw [if_pos hi]; exact pk_bd (mk_good F c).ok hl hi
            · rw [if_neg hi]; exact ⟨Int.le_refl _, by decide⟩, fun i hi => if_neg (by omega)⟩
        have HPE : Hid (∀ i, i < z → (fun i => if i < z then (Mk F c).pk z i else 0) i = (Mk F c).pk z i) := fun i hi => if_pos hi
        obtain ⟨p, hpd⟩ : ∃ p : Nat → Int, (fun i => if i < z then (Mk F c).pk z i else 0) = p := ⟨_, rfl⟩
        rw [hpd] at HPX HPE
        clear hpd
        have HNEW : Hid (Re.new p = Re.at (Mk F 0) (Mk F c)) := back_new (mk_good F c).ok hl HPE.out
        go_wp2_with (first
          | (go_at_call 31; refine (done_wr wr bw z (Mk F c) z0 z1 nk hl HJ.out.wr).mono ?_; rintro e w3 ⟨gD, rfl, hgD, HP, HB3⟩; have HI3 : Hid (IntsAt w3 (some ⟨gD, 0, none⟩) z .u8 p) := (fun i hi => ⟨gD, 0, rfl, (by rw [Nat.zero_add, HPE.out i hi]; exact HP.cell hi)⟩); have HJ3 : Hid (BackS w3 B bw z (.slice aP c cP) c F (Mk F c)) := HJ.out.keep (grown_below HB3 none); have HW3 : Hid (Below w.heap.size w w3) := HB.out.trans (HB3.mono HB.out.size); clear HP HB3 hgD)
          | (go_at_call 10; refine (swnew w3 (some ⟨gD, 0, none⟩) z z p (by omega) HPX (hT.out.below HW3.out) HI3).mono ?_; rw [HNEW.out]; rintro e w4 ⟨bx, rfl, HX, HB4⟩; replace HX : Hid (SwAt w4 w3.heap.size w4.heap.size bx z p (Re.at (Mk F 0) (Mk F c))) := HX; have HJ4 : Hid (BackS w4 B bw z (.slice aP c cP) c F (Mk F c)) := HJ3.out.keep (grown_below HB4 none); have HW4 : Hid (Below w.heap.size w w4) := HW3.out.trans (HB4.mono HW3.out.size); have HX3 : Hid (w.heap.size ≤ w3.heap.size) := HW3.out.size; clear HB4))
        have HU : Hid (UnderS w3.heap.size bw (.slice aP c cP)) := HJ3.out.under
        generalize w3.heap.size = lo at *
        generalize hh4 : w4.heap.size = hi' at *
        clear HJ HJ3 HW3 HB HI3 hh4 HBr
        have hA := HA.out
        have HACC : Hid (∀ q, q < c → Acc (F q)) := hA
        clear hA HA HJ1 HBs HBW
        go_loopw [81] (fun i wr => ∃ q : Nat, q ≤ c ∧ i = .int .i64 q ∧ Hid (SwAt wr lo hi' bx z p (Re.at (Mk F q) (Mk F c))) ∧ Hid (BackS wr B bw z (.slice aP c cP) c F (Mk F c)) ∧ Hid (Below w.heap.size w wr)) (fun i _ => c - (intOf i).toNat)
        case atStart => exact ⟨0, Nat.zero_le _, rfl, HX, HJ4, HW4⟩
        case round =>
          obtain ⟨q, hq, rfl, HX, HJ, HB⟩ := hrel
          by_cases hqc : q < c
          · have hqc' : (q : Int) < c := by omega
            have q0 : ¬ ((q : Int) < 0) := by omega
            obtain ⟨gP, capP, e, _, _⟩ := HJ.out.p.form (by omega)
            cases e
            have HAQ : Hid (Acc (F q)) := HACC.out q hqc
            have r0 := HJ.out.op hqc 0 (by decide)
            have r1 := HJ.out.op hqc 1 (by decide)
            have r2 := HJ.out.op hqc 2 (by decide)
            have r3 := HJ.out.op hqc 3 (by decide)
            have r4 := HJ.out.op hqc 4 (by decide)
            rw [Nat.add_zero] at r0
            have HPUT : Hid ((F q).k % 2 = 0 → (Re.at (Mk F q) (Mk F c)).take p (F q).a (F q).b (F q).t = Re.at (Mk F (q + 1)) (Mk F c) ∧ (F q).a ≤ (Re.at (Mk F q) (Mk F c)).get (F q).t ∧ (Re.at (Mk F q) (Mk F c)).get (F q).t < (F q).b) := fun hk => back_put HACC.out HL.out HPE.out hqc hk
            have HRAW : Hid (¬ (F q).k % 2 = 0 → rsum z p (Mk F q).nR (rawK (F q).b) = (F q).x ∧ (Re.at (Mk F q) (Mk F c)).raw (rawK (F q).b) = Re.at (Mk F (q + 1)) (Mk F c)) := fun hk => back_raw HACC.out HL.out HPE.out hqc hk
            have hnq := mk_n F q
            have HG : Hid (Re.at (Mk F q) (Mk F c)).Good := at_good (mk_good F q) (mk_in HACC.out (c - q) q (by omega))
            have t1 : (Re.at (Mk F q) (Mk F c)).tk ≤ 800000 := by show (Mk F q).nD ≤ _; omega
            have t9 : (Re.at (Mk F q) (Mk F c)).nb ≤ 700000 := by show (Mk F q).nR ≤ _; omega
            have HNB : Hid ((Mk F q).nR = (Re.at (Mk F q) (Mk F c)).nb) := rfl
            rw [HNB.out] at HRAW
            clear hnq HNB
            have HLB : Hid (0 < lo ∧ lo ≤ bx ∧ bx < hi' ∧ bx < wr.heap.size) := HX.out.lt
            generalize F q = o at HAQ r0 r1 r2 r3 r4 HPUT HRAW
            obtain ⟨m, hm⟩ : ∃ m, Re.at (Mk F q) (Mk F c) = m := ⟨_, rfl⟩
            obtain ⟨m2, hm2⟩ : ∃ m2, Re.at (Mk F (q + 1)) (Mk F c) = m2 := ⟨_, rfl⟩
            rw [hm] at HX HPUT HRAW HG t1 t9
            rw [hm2] at HPUT HRAW
            have HM2 : Hid (Re.at (Mk F (q + 1)) (Mk F c) = m2) := hm2
            clear hm hm2
            obtain ⟨k, x, y, t, u⟩ := o
            replace r0 : wr.cell? ⟨gP, q * 5, none⟩ = some (.int .u8 k) := r0
            replace r1 : wr.cell? ⟨gP, q * 5 + 1, none⟩ = some (.int .i64 x) := r1
            replace r2 : wr.cell? ⟨gP, q * 5 + 2, none⟩ = some (.int .i64 y) := r2
            replace r3 : wr.cell? ⟨gP, q * 5 + 3, none⟩ = some (.int .i64 t) := r3
            replace r4 : wr.cell? ⟨gP, q * 5 + 4, none⟩ = some (.int .u32 u) := r4
            have k0 : 0 ≤ k := HAQ.out.ok.k0
            have k255 : k ≤ 255 := HAQ.out.ok.k1
            have ek : Int.tmod k 2 = k % 2 := Int.tmod_eq_emod_of_nonneg k0
            by_cases hk : k % 2 = 0
            · have HMAY : Hid (May x y t) := HAQ.out.p hk
              obtain ⟨p1, p2, p3⟩ := HPUT.out hk
              simp only at p1 p2 p3
              obtain ⟨a0, ab, bt, tt⟩ := HMAY.out
              have HGT : Hid (m.getU t = m.get t) := if_pos ⟨by omega, tt⟩
              obtain ⟨sg, hsg⟩ : ∃ sg, m.get t = sg := ⟨_, rfl⟩
              rw [hsg] at p2 p3
              have HSG : Hid (m.getU t = sg) := by rw [HGT.out]; exact hsg
              have HP1 : Hid (m.take p x y t = m2) := p1
              have p2' : ¬ sg < x := by omega
              have p3' : ¬ y ≤ sg := by omega
              clear p1 hsg HGT
              go_wp2_with (first
                | (go_at_call 12; refine (swget _ lo hi' bx z p m t HG (SwAt.keep (b := bx) HX.out (by repeat (first | (with_reducible exact grown_refl _ none) | (with_reducible refine grown_alloc ?_ _) | (with_reducible refine grown_drew ?_))))).mono ?_; rw [HSG.out]; rintro e w5 ⟨rfl, rfl⟩)
                | (go_at_call 14; refine (swtake _ lo hi' bx z p m x y t (by omega) t1 HPX HG HMAY (SwAt.keep (b := bx) HX.out (by repeat (first | (with_reducible exact grown_refl _ none) | (with_reducible refine grown_alloc ?_ _) | (with_reducible refine grown_drew ?_))))).mono ?_; rw [HP1.out]; rintro e wz ⟨rfl, HXz, HBz⟩; replace HXz : Hid (SwAt wz lo hi' bx z p m2) := HXz; have HJz : Hid (BackS wz B bw z (.slice (some ⟨gP, 0, none⟩) c cP) c F (Mk F c)) := (HJ.out.keep (by repeat (first | (with_reducible exact grown_refl _ none) | (with_reducible refine grown_alloc ?_ _) | (with_reducible refine grown_drew ?_)))).keepU HU.out HBz HLB.out.2.1; have HWz : Hid (Below w.heap.size w wz) := below_grown (HB.out.alloc HB.out.size _) HBz (Nat.le_trans HX3.out HLB.out.2.1) (Nat.le_trans HB.out.size (grown_size (grown_alloc (grown_refl wr none) _))); clear HBz))
              go_roundw
              case rel => exact ⟨q + 1, by omega, by go_num, by rw [HM2.out]; exact HXz, HJz, HWz⟩
              case measure => simp [intOf]; omega
            · obtain ⟨p1, p2⟩ := HRAW.out hk
              simp only at p1 p2
              have HP1 : Hid (rsum z p m.nb (rawK y) = u) := p1
              have HP2 : Hid (m.raw (rawK y) = m2) := p2
              have hk' : (k % 2 == 0) = false := by simp; omega
              clear p1 p2
              go_wp2
              go_region_with (first
                | (go_at_call 16; refine (swraw _ lo hi' bx z p m y (by omega) t9 HPX (by exact SwAt.keep (b := bx) HX.out (by repeat (first | (with_reducible exact grown_refl _ none) | (with_reducible refine grown_alloc ?_ _) | (with_reducible refine grown_drew ?_))))).mono ?_; rw [HP1.out, HP2.out]; rintro e wz ⟨rfl, HXz, HBz⟩; replace HXz : Hid (SwAt wz lo hi' bx z p m2) := HXz; have o4 := row_cell (var_cell HBz (show (wr.alloc (.cells #[.int .u8 k, .int .i64 x, .int .i64 y, .int .i64 t, .int .u32 u] 51)).drew.heap[wr.heap.size]? = _ from heap_alloc_new wr _) (by have := HLB.out; omega)) 4 rfl; have HJz : Hid (BackS wz B bw z (.slice (some ⟨gP, 0, none⟩) c cP) c F (Mk F c)) := (HJ.out.keep (by repeat (first | (with_reducible exact grown_refl _ none) | (with_reducible refine grown_alloc ?_ _) | (with_reducible refine grown_drew ?_)))).keepU HU.out HBz HLB.out.2.1; have HWz : Hid (Below w.heap.size w wz) := below_grown (HB.out.alloc HB.out.size _).drew HBz (Nat.le_trans HX3.out HLB.out.2.1) (Nat.le_trans HB.out.size (grown_size (grown_drew (grown_alloc (grown_refl wr none) _)))); clear HBz))
              all_goals (
                go_wp2
                go_roundw
                case rel => exact ⟨q + 1, by omega, by go_num, by rw [HM2.out]; exact HXz, HJz, HWz⟩
                case measure => simp [intOf]; omega)
          · have e : q = c := by omega
            subst e
            clear hqc
            have HEL : Hid ((Re.at (Mk F q) (Mk F q)).left z = (Mk F q).left z) := rfl
            have HER : Hid ((Re.at (Mk F q) (Mk F q)).rng = (Mk F q).rng) := rfl
            have t2 : (Re.at (Mk F q) (Mk F q)).tk ≤ 900000 := by show (Mk F q).nD ≤ _; omega
            have t3 : (Re.at (Mk F q) (Mk F q)).nb ≤ 900000 := by show (Mk F q).nR ≤ _; omega
            obtain ⟨m2, hm2⟩ : ∃ m2, Re.at (Mk F q) (Mk F q) = m2 := ⟨_, rfl⟩
            rw [hm2] at HX HEL HER t2 t3
            clear hm2
            go_wp2_with (first
              | (go_at_call 18; refine (swleft _ lo hi' bx z p m2 (by omega) t2 t3 (SwAt.keep HX.out (by repeat (first | (with_reducible exact grown_refl _ none) | (with_reducible refine grown_alloc ?_ _) | (with_reducible refine grown_drew ?_))))).mono ?_; rw [HEL.out]; rintro e w5 ⟨rfl, rfl⟩)
              | (go_at_call 32; refine (left_wr _ bw z (Mk F q) z1 nm nk (WrAt.kept (row := none) HJ.out.wr (by repeat (first | (with_reducible exact grown_refl _ none) | (with_reducible refine grown_alloc ?_ _) | (with_reducible refine grown_drew ?_))) (by simp))).mono ?_; rintro e w5 ⟨rfl, rfl⟩)
              | (go_at_call 20; refine (swrng _ lo hi' bx z p m2 (SwAt.keep HX.out (by repeat (first | (with_reducible exact grown_refl _ none) | (with_reducible refine grown_alloc ?_ _) | (with_reducible refine grown_drew ?_))))).mono ?_; rw [HER.out]; rintro e w5 ⟨rfl, rfl⟩)
              | (go_at_call 33; refine (rng_wr _ bw z (Mk F q) (WrAt.kept (row := none) HJ.out.wr (by repeat (first | (with_reducible exact grown_refl _ none) | (with_reducible refine grown_alloc ?_ _) | (with_reducible refine grown_drew ?_))) (by simp))).mono ?_; rintro e w5 ⟨rfl, rfl⟩))
            go_ret
            exact ⟨rfl, by repeat (first | exact HB.out | refine Below.drew ?_)⟩
      · have hl' : (Mk F c).left z < 0 := by omega
        clear HN hl
        go_wp2_with (first
          | (go_at_call 31; refine (done_full wr bw z (Mk F c) z1 nm nk hl' HJ.out.wr).mono ?_; rintro e w5 ⟨rfl, rfl⟩)
          | (go_at_call 32; refine (left_wr _ bw z (Mk F c) z1 nm nk (WrAt.kept (row := none) HJ.out.wr (by repeat (first | (with_reducible exact grown_refl _ none) | (with_reducible refine grown_alloc ?_ _) | (with_reducible refine grown_drew ?_))) (by simp))).mono ?_; rintro e w5 ⟨rfl, rfl⟩))
        go_ret
        exact ⟨rfl, by repeat (first | exact HB.out | refine Below.drew ?_)⟩

end Go.Proofs.YtiejdlapgppbkaaDoor
