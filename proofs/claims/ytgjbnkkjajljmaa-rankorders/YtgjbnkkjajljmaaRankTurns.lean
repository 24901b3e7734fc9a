/-
  The law RankTurns of layer 11 (rank) as a walk: called at any input it returns true, and nothing that was there has turned.
-/
import Derived.Test.YtgjbnkkjajljmaaRankLaws
import Derived.Deep.CutBlock
namespace Go.Proofs.Ytgjbnkkjajljmaa
set_option linter.unusedVariables false
open Go.ChangeShapes Go.WideShapes Go.ChangeAt Go.RowKit

theorem chk_pos : all2 16 33 (fun n k => Nat.ble 1 (vv (n + 1) k)) = true := by kernel_rfl
theorem vv_pos {n k : Nat} (h1 : 1 ≤ n) (hn : n ≤ 16) (hk : k ≤ 32) : 1 ≤ vv n k := by
  obtain ⟨m, rfl⟩ : ∃ m, n = m + 1 := ⟨n - 1, by omega⟩
  exact Nat.le_of_ble_eq_true (all2_at chk_pos (by omega) (by omega))
theorem emod_nat (i : Nat) {v : Nat} (hv : 1 ≤ v) : ∃ j : Nat, (i : Int) % (v : Int) = j ∧ j < v ∧ j = i % v := by
  refine ⟨i % v, ?_, Nat.mod_lt _ (by omega), rfl⟩
  rfl

/-- What turning the first number that isn't 0 does. -/
theorem turn_all {r : List Int} {n q k : Nat} {z : Int} (hl : r.length = n) (h0 : ∀ j, j < q → r[j]? = some 0) (hz : r[q]? = some z) :
    (r.set q (-z)).length = n ∧ pul (r.set q (-z)) = pul r ∧ (0 < z → rk (r.set q (-z)) k = rk r k + vv (n - 1 - q) (k - z.natAbs)) ∧ (z < 0 → rk r k = rk (r.set q (-z)) k + vv (n - 1 - q) (k - z.natAbs)) := by
  have hs := zeros_split r q z h0 hz
  have hq := (List.getElem?_eq_some_iff.1 hz).1
  have htl : (r.drop (q + 1)).length = n - 1 - q := by rw [List.length_drop]; omega
  generalize r.drop (q + 1) = t at hs htl
  subst hs
  rw [zeros_set]
  refine ⟨by rw [← hl]; simp, turn_pul q z t, fun h => ?_, fun h => ?_⟩
  · rw [turn_rank q z t k h, htl]
  · have := turn_rank q (-z) t k (by omega)
    rw [Int.neg_neg, htl, show (-z).natAbs = z.natAbs by omega] at this
    exact this
theorem not_all_zero {r : List Int} {n k q : Nat} {z : Int} (hl : r.length = n) (hp : pul r = k) (hk : 1 ≤ k) (h0 : ∀ j, j < q → r[j]? = some 0) (hz : r[q]? = some z) (hq : q = n - 1) : z ≠ 0 := by
  intro e
  subst e
  have hs := zeros_split r q 0 h0 hz
  have hq2 := (List.getElem?_eq_some_iff.1 hz).1
  have ht : r.drop (q + 1) = [] := List.drop_of_length_le (by omega)
  rw [ht] at hs
  rw [hs, pul_zeros] at hp
  simp only [pul] at hp
  omega

theorem OwnL.empty (w : World) {B : Nat} (hB : B ≤ w.heap.size) : OwnL (w.alloc (.cells #[] 3)) B (.slice (some ⟨w.heap.size, 0, none⟩) 0 0) [] :=
  ⟨rfl, .inr ⟨_, 0, _, rfl, hB, heap_alloc_new _ _, Nat.le_refl _, Nat.zero_le _, rfl, rfl⟩⟩
theorem row_grown' {w w1 w2 : World} {row : Option Nat} (h : w.grownBy w1 none) (hg : w1.grownBy w2 row) (hr : ∀ q, row = some q → w.heap.size ≤ q) : w.grownBy w2 none :=
  ⟨hg.os.trans h.os, hg.tape.trans h.tape, hg.output.trans h.output, Nat.le_trans h.size hg.size, fun i hi _ => (hg.block i (Nat.lt_of_lt_of_le hi h.size) (fun e => by have := hr i e.symm; omega)).trans (h.block i hi (by simp))⟩

set_option maxHeartbeats 4000000 in
theorem turns_law (n k i : Int) (w : World) (n0 : 0 ≤ n) (n1 : n ≤ 255) (k0 : 0 ≤ k) (k1 : k ≤ 255) (i0 : 0 ≤ i) (i1 : i ≤ 18446744073709551615) : Calls Try.prog 7 #[.int .u8 n, .int .u8 k, .int .u64 i] w fun e w' => e = .returned (.bool true) ∧ Below w.heap.size w w' := by
  obtain ⟨x, hx⟩ : ∃ x : Nat, n.tmod 16 = x := ⟨(n.tmod 16).toNat, by rw [Int.tmod_eq_emod_of_nonneg n0]; omega⟩
  obtain ⟨y, hy⟩ : ∃ y : Nat, k.tmod 32 = y := ⟨(k.tmod 32).toNat, by rw [Int.tmod_eq_emod_of_nonneg k0]; omega⟩
  have hx1 : x < 16 := by rw [Int.tmod_eq_emod_of_nonneg n0] at hx; omega
  have hy1 : y < 32 := by rw [Int.tmod_eq_emod_of_nonneg k0] at hy; omega
  obtain ⟨i, rfl⟩ : ∃ j : Nat, i = j := ⟨i.toNat, by omega⟩
  obtain ⟨A, hA⟩ : ∃ A : Nat, 1 + x = A := ⟨_, rfl⟩
  obtain ⟨C, hC⟩ : ∃ C : Nat, 1 + y = C := ⟨_, rfl⟩
  have eA : (1 : Int) + (x : Int) = (A : Int) := by omega
  have eC : (1 : Int) + (y : Int) = (C : Int) := by omega
  have hvp := vv_pos (n := A) (k := C) (by omega) (by omega) (by omega)
  have hvb := vv_bd (n := A) (k := C) (by omega) (by omega)
  obtain ⟨v, hv⟩ : ∃ v, vv A C = v := ⟨_, rfl⟩
  have HV : Hid (vI (A : Int) (C : Int) = v) := by show vI _ _ = v; rw [vI_nat (by omega) (by omega), hv]
  have HVV : Hid (vv A C = v) := hv
  rw [hv] at hvp hvb
  obtain ⟨j, hj, hjv, _⟩ := emod_nat i hvp
  have hA1 : 1 ≤ A := by omega
  have hA2 : A ≤ 16 := by omega
  have hC1 : 1 ≤ C := by omega
  have hC2 : C ≤ 32 := by omega
  have EJ : Hid ((i : Int) % (v : Int) = j) := hj
  have EA : Hid _ := eA
  have EC : Hid _ := eC
  have HJ : Hid (j < vv A C) := by show j < vv A C; rw [hv]; exact hjv
  have hv1 : ¬ (v : Int) < 1 := by omega
  have hv2 : ¬ (v : Int) = 0 := by omega
  clear hv eA eC hj
  go_enter Try.func7, Try.ntmps7
  go_wp2_with fail
  refine (awake11 _).mono ?_
  rintro e w0 ⟨rfl, hb0⟩
  have HZ0 : Hid (Below w.heap.size w w0) := hb0
  clear hb0
  go_wp2_with fail
  refine (newb_calls _).mono ?_
  rintro e w1 ⟨b, rfl, hB1, hb1, hle⟩
  have HB1 : Hid (Bk w1 b none) := hB1
  have HZ1 : Hid (Below w0.heap.size w0 w1) := hb1
  clear hB1 hb1
  go_wp2_with fail
  rw [EA.out, EC.out]
  refine (vb_calls _ b none A C HB1).mono ?_
  rw [HV.out]
  rintro e w2 ⟨rfl, mo2, hB2, hG2⟩
  have HB2 : Hid (Bk w2 b mo2) := hB2
  have HG2 : Hid (Gb w1 w2 b none mo2) := hG2
  clear hB2 hG2 HB1
  go_wp2_with fail
  rw [EJ.out]
  refine (unrank_good _ b mo2 A C j HJ hA2 hC2 HB2).mono ?_
  rintro e w3 ⟨g, r, rfl, hO3, hl3, hp3, hr3, mo3, hB3, hG3⟩
  have HO3 : Hid (OwnL w3 w2.heap.size (.slice (some ⟨g, 0, none⟩) A A) r) := hO3
  have HL3 : Hid (LAt w3 (some ⟨g, 0, none⟩) r) := hO3.lat
  have hg3 : g < w3.heap.size := (hO3.lt rfl).2
  have HB3 : Hid (Bk w3 b mo3) := hB3
  have HG3 : Hid (Gb w1 w3 b none mo3) := HG2.out.trans hG3
  have HLN : Hid (r.length = A) := hl3
  have HP : Hid (pul r = C) := hp3
  clear hO3 hl3 hp3 hr3 hB3 hG3 HB2 HG2 HJ
  clear hx hy
  go_upto_block 0 with fail
  go_cut [12] (fun u wc => ∃ (q : Nat) (z : Int), q ≤ A - 1 ∧ u = .int .i64 q ∧ w3 = wc ∧ Hid (∀ j, j < q → r[j]? = some 0) ∧ Hid (r[q]? = some z) ∧ z ≠ 0)
  case first =>
    go_wp2_with fail
    go_loopw [12] (fun u wr => ∃ q : Nat, q ≤ A - 1 ∧ u = .int .i64 q ∧ w3 = wr ∧ Hid (∀ j, j < q → r[j]? = some 0)) (fun u _ => A - (intOf u).toNat)
    case atStart => exact ⟨0, by omega, rfl, rfl, fun j hj => by omega⟩
    case round =>
      obtain ⟨q, hq, rfl, rfl, H0⟩ := hrel
      obtain ⟨z, hz⟩ : ∃ z, r[q]? = some z := ⟨_, List.getElem?_eq_getElem (by rw [HLN.out]; omega)⟩
      obtain ⟨bl, off, e, c0⟩ := HL3.out q z hz
      cases e
      rw [Nat.zero_add] at c0
      have HZ : Hid (r[q]? = some z) := hz
      clear hz
      by_cases hlt : (q : Int) < (A : Int) - 1
      · by_cases hz0 : z = 0
        · subst hz0
          go_wp2
          go_roundw
          case rel => exact ⟨q + 1, by omega, by go_num, trivial, fun j hj => by
            by_cases e : j = q
            · subst e; exact HZ.out
            · exact H0.out j (by omega)⟩
          case measure => simp [intOf]; omega
        · go_wp2
          go_meet
          exact ⟨q, z, hq, rfl, rfl, H0, HZ, hz0⟩
      · have hz0 : z ≠ 0 := not_all_zero HLN.out HP.out hC1 H0.out HZ.out (by omega)
        go_wp2
        go_meet
        exact ⟨q, z, hq, rfl, rfl, H0, HZ, hz0⟩
  case rest =>
    obtain ⟨q, z, hq, rfl, rfl, H0, HZ, hz0⟩ := hcut
    have hzC : z.natAbs ≤ C := by have := pul_at r q z HZ.out; rw [HP.out] at this; exact this
    have cx3 : w3.cell? ⟨g, q, none⟩ = some (.int .i64 z) := HO3.out.cell HZ.out
    have hz1 : -32 ≤ z := by omega
    have hz2 : z ≤ 32 := by omega
    go_wp2_with (at_builtin; refine wpList_catL rfl _ _ rfl w3.heap.size (.slice (some ⟨w3.heap.size, 0, none⟩) 0 0) [] rfl (OwnL.empty w3 (Nat.le_refl _)) w2.heap.size (.slice (some ⟨g, 0, none⟩) A A) r rfl (HO3.out.kept (World.grownBy_alloc w3 _ none) (by simp [Value.ownBlock])) (by simp) (by rw [HLN.out]; omega) (by simp) ?_; intro vy w4 h1 h2 h3; rw [List.nil_append] at h1; have hN4 : w3.grownBy w4 none := row_grown' (World.grownBy_alloc w3 _ none) h2 (fun q e => by cases e; exact Nat.le_refl _); obtain ⟨gy, cy, evy, hgy, hgy2, hcy1, hcy2⟩ := h1.form (by rw [HLN.out]; omega); rw [HLN.out] at evy hcy1; subst evy; have HN4 : Hid (w3.grownBy w4 none) := hN4; have HY4 : Hid (OwnL w4 w3.heap.size (.slice (some ⟨gy, 0, none⟩) A cy) r) := h1; have cy4 : w4.cell? ⟨gy, q, none⟩ = some (.int .i64 z) := h1.cell HZ.out; have fy4 := h1.free q; clear h1 h2 h3 hN4)
    have hset := HY4.out.set q (-z)
    have hgne : g ≠ gy := by omega
    obtain ⟨w5, hw5⟩ : ∃ w5, w4.setCell ⟨gy, q, none⟩ (.int .i64 (-z)) = w5 := ⟨_, rfl⟩
    rw [hw5] at hset ⊢
    have HL5 : Hid (LAt w5 (some ⟨g, 0, none⟩) r) := by
      show LAt _ _ _
      intro i x hx
      obtain ⟨b', o', e, c⟩ := (HL3.out.grown HN4.out) i x hx
      cases e
      refine ⟨g, 0, rfl, ?_⟩
      rw [← hw5, World.cell?_of_block (a := ⟨g, 0 + i, none⟩) (Below.heap_setCell _ _ _ _ (by exact hgne))]
      exact c
    have cx5 : w5.cell? ⟨g, q, none⟩ = some (.int .i64 z) := by
      obtain ⟨b', o', e, c⟩ := HL5.out q z HZ.out
      cases e
      rw [Nat.zero_add] at c
      exact c
    have HY5 : Hid (LAt w5 (some ⟨gy, 0, none⟩) (r.set q (-z))) := hset.1.lat
    have hg5 : w4.grownBy w5 (some gy) := hset.2
    have hN5 : w3.grownBy w5 none := row_grown' HN4.out hg5 (fun q e => by cases e; exact hgy)
    have HB5 : Hid (Bk w5 b mo3) := HB3.out.keep hN5
    have HG5 : Hid (Gb w1 w5 b none mo3) := HG3.out.trans (Gb.grown hN5 _ _)
    obtain ⟨tl, tp, tu, td⟩ := turn_all (k := C) HLN.out H0.out HZ.out
    have TL : Hid ((r.set q (-z)).length = A) := tl
    have TP : Hid (pul (r.set q (-z)) = C) := by show _ = _; rw [tp]; exact HP.out
    have HPb := rk_bd r (by rw [HLN.out]; exact hA2) C hC2 HP.out
    have HQb := rk_bd (r.set q (-z)) (by rw [tl]; exact hA2) C hC2 TP.out
    obtain ⟨P, hP⟩ : ∃ P, rk r C = P := ⟨_, rfl⟩
    obtain ⟨Q, hQ⟩ : ∃ Q, rk (r.set q (-z)) C = Q := ⟨_, rfl⟩
    have HPP : Hid (rk r C = P) := hP
    have HQQ : Hid (rk (r.set q (-z)) C = Q) := hQ
    rw [hP] at HPb
    rw [hQ] at HQb
    rw [hP, hQ] at tu td
    have hob := vv_bd (n := A - 1 - q) (k := C - z.natAbs) (by omega) (by omega)
    obtain ⟨o, ho⟩ : ∃ o, vv (A - 1 - q) (C - z.natAbs) = o := ⟨_, rfl⟩
    have HOF : Hid (vI ((A : Int) - 1 - (q : Int)) ((C : Int) - (z.natAbs : Int)) = o) := by
      show vI _ _ = o
      rw [show (A : Int) - 1 - (q : Int) = ((A - 1 - q : Nat) : Int) by omega, vI_sub (by omega) hC2 hzC, ho]
    rw [ho] at tu td hob
    have TU : Hid _ := tu
    have TD : Hid _ := td
    clear hset hw5 hg5 hN5 tl tp tu td hP hQ ho cy4 fy4 cx3 HL3 HO3 HB3 HG3 HN4 HY4
    refine (rank_good _ b mo3 _ A A r hA2 (Nat.le_refl _) (by omega) HLN C hC2 HP HL5 HB5).mono ?_
    rw [HPP.out]
    rintro e w6 ⟨rfl, mo6, hB6, hG6⟩
    have HY6 : Hid (LAt w6 (some ⟨gy, 0, none⟩) (r.set q (-z))) := HB5.out.lat hG6 HY5.out
    have cx6 : w6.cell? ⟨g, q, none⟩ = some (.int .i64 z) := by obtain ⟨S, _, hS⟩ := HB5.out; exact cell_gb hS hG6 cx5
    have HB6 : Hid (Bk w6 b mo6) := hB6
    have HG6 : Hid (Gb w1 w6 b none mo6) := HG5.out.trans hG6
    clear hB6 hG6 cx5 HB5 HG5 HL5 HY5
    go_wp2_with fail
    refine (rank_good _ b mo6 _ A cy (r.set q (-z)) hA2 hcy1 hcy2 TL C hC2 TP HY6 HB6).mono ?_
    rw [HQQ.out]
    rintro e w7 ⟨rfl, mo7, hB7, hG7⟩
    have HY7 : Hid (LAt w7 (some ⟨gy, 0, none⟩) (r.set q (-z))) := HB6.out.lat hG7 HY6.out
    have cx7 : w7.cell? ⟨g, q, none⟩ = some (.int .i64 z) := by obtain ⟨S, _, hS⟩ := HB6.out; exact cell_gb hS hG7 cx6
    have HB7 : Hid (Bk w7 b mo7) := hB7
    have HG7 : Hid (Gb w1 w7 b none mo7) := HG6.out.trans hG7
    clear hB7 hG7 cx6 HB6 HG6 HY6
    go_wp2_with fail
    refine (pulses_right _ _ A cy (r.set q (-z)) hA2 hcy1 hcy2 TL C TP.out (by omega) HY7).mono ?_
    rintro e w8 ⟨rfl, hw8⟩
    obtain rfl := hw8.symm
    clear hw8
    by_cases hs : 0 < z
    · have hzn : (z.natAbs : Int) = z := by omega
      rw [hzn] at HOF
      have hQ2 : (Q : Int) - (P : Int) = (o : Int) := by have := TU.out hs; omega
      have hm1 : -z ≤ z := by omega
      have hm2 : ¬ z < -z := by omega
      clear TU TD hzn
      go_wp2_with fail
      go_region
      all_goals go_wp2_with fail
      all_goals refine (vb_calls _ b mo7 _ _ (by exact HB7)).mono ?_
      all_goals rw [HOF.out]
      all_goals rintro e w9 ⟨rfl, mo9, hB9, hG9⟩
      all_goals have cx9 : w9.cell? ⟨g, q, none⟩ = some (.int .i64 z) := (by obtain ⟨S, _, hS⟩ := HB7.out; exact cell_gb hS.drew hG9 cx7)
      all_goals have HZ9 : Hid (Below w.heap.size w w9) := HZ0.out.trans ((below_book HZ1.out hle (HG7.out.drew.trans hG9)).mono HZ0.out.size)
      all_goals clear hB9 hG9
      all_goals go_wp2
      all_goals go_returns
      all_goals exact ⟨rfl, HZ9.out⟩
    · have hs' : z < 0 := by omega
      have hzn : (z.natAbs : Int) = -z := by omega
      rw [hzn, Int.sub_neg] at HOF
      have hQ2 : (P : Int) - (Q : Int) = (o : Int) := by have := TD.out hs'; omega
      have hm1 : ¬ -z ≤ z := by omega
      have hm2 : z < -z := by omega
      clear TU TD hzn
      go_wp2_with fail
      go_region
      all_goals go_wp2_with fail
      all_goals refine (vb_calls _ b mo7 _ _ (by exact HB7)).mono ?_
      all_goals rw [HOF.out]
      all_goals rintro e w9 ⟨rfl, mo9, hB9, hG9⟩
      all_goals have cx9 : w9.cell? ⟨g, q, none⟩ = some (.int .i64 z) := (by obtain ⟨S, _, hS⟩ := HB7.out; exact cell_gb hS.drew hG9 cx7)
      all_goals have HZ9 : Hid (Below w.heap.size w w9) := HZ0.out.trans ((below_book HZ1.out hle (HG7.out.drew.trans hG9)).mono HZ0.out.size)
      all_goals clear hB9 hG9
      all_goals go_wp2
      all_goals go_returns
      all_goals exact ⟨rfl, HZ9.out⟩
end Go.Proofs.Ytgjbnkkjajljmaa
