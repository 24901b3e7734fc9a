/-
  The law TableAlike of layer 12 (table) as a walk: called at any input it returns true, and nothing that was there has turned.
-/
import Derived.Test.YtejappandbooeaaTableLaws
namespace Go.Proofs.Ytejappandbooeaa
set_option linter.unusedVariables false
open Go.ChangeShapes Go.WideShapes Go.ChangeAt Go.RowKit

theorem TabAt.gb' {w w' : World} {b bk : Nat} {mo mo' : Option Nat} (h : TabAt w b) (hB : Bk w bk mo) (hG : Gb w w' bk mo mo') : TabAt w' b := h.bk hB hG

set_option maxHeartbeats 4000000 in
theorem talike_law (n k : Int) (ao : Option Addr) (m cap : Nat) (f : Nat → Int) (w : World) (n0 : 0 ≤ n) (n1 : n ≤ 255) (k0 : 0 ≤ k) (k1 : k ≤ 255) (hL : Hid (IntsAt w ao m .u64 f)) (hF : Hid (∀ i, i < m → 0 ≤ f i ∧ f i ≤ 18446744073709551615)) (hm : m ≤ 60) : Calls Try.prog 5 #[.int .u8 n, .int .u8 k, .slice ao m cap] w fun e w' => e = .returned (.bool true) ∧ Below w.heap.size w w' := by
  have hm' : ¬ (60 : Int) < m := by omega
  obtain ⟨x, hx⟩ : ∃ x : Nat, n.tmod 16 = x := ⟨(n.tmod 16).toNat, by rw [Int.tmod_eq_emod_of_nonneg n0]; omega⟩
  obtain ⟨C, hy⟩ : ∃ C : Nat, k.tmod 33 = C := ⟨(k.tmod 33).toNat, by rw [Int.tmod_eq_emod_of_nonneg k0]; omega⟩
  have hx1 : x < 16 := by rw [Int.tmod_eq_emod_of_nonneg n0] at hx; omega
  have hC2 : C ≤ 32 := by rw [Int.tmod_eq_emod_of_nonneg k0] at hy; omega
  obtain ⟨A, hA⟩ : ∃ A : Nat, 1 + x = A := ⟨_, rfl⟩
  have eA : (1 : Int) + (x : Int) = (A : Int) := by omega
  have hvp := vv_pos (n := A) (k := C) (by omega) (by omega) (by omega)
  have hvb := vv_bd (n := A) (k := C) (by omega) (by omega)
  obtain ⟨v, hv⟩ : ∃ v, vv A C = v := ⟨_, rfl⟩
  have HV : Hid (vI (A : Int) (C : Int) = v) := by show vI _ _ = v; rw [vI_nat (by omega) (by omega), hv]
  have HVV : Hid (vv A C = v) := hv
  rw [hv] at hvp hvb
  have hA1 : 1 ≤ A := by omega
  have hA2 : A ≤ 16 := by omega
  have EA : Hid _ := eA
  have hv2 : ¬ (v : Int) = 0 := by omega
  have hvq : ((v : Int) == 0) = false := by simp; omega
  clear hv eA
  go_enter Try.func5, Try.ntmps5
  go_wp2_with fail
  refine (awake12 _).mono ?_
  rintro e w0 ⟨rfl, hb0⟩
  have HZ0 : Hid (Below w.heap.size w w0) := hb0
  clear hb0
  go_wp2_with fail
  refine (tnew_any _).mono ?_
  rintro e w1 ⟨b, rfl, hb, hT, hb1⟩
  have HT1 : Hid (TabAt w1 b) := hT
  have HZ1 : Hid (Below w.heap.size w w1) := HZ0.out.trans (hb1.mono HZ0.out.size)
  clear hT hb1 HZ0 hb
  go_wp2_with fail
  refine (newb_calls _).mono ?_
  rintro e w2 ⟨bk, rfl, hB2, hb2, hle2⟩
  have HT2 : Hid (TabAt w2 b) := HT1.out.below hb2
  have HB2 : Hid (Bk w2 bk none) := hB2
  have HZ2 : Hid (Below w.heap.size w w2) := HZ1.out.trans (hb2.mono HZ1.out.size)
  have hbk : w.heap.size ≤ bk := Nat.le_trans HZ1.out.size hle2
  have hbl : b < w2.heap.size := HT2.out.lt
  have hbkl : bk < w2.heap.size := HB2.out.lt
  clear hB2 hb2 HT1 HZ1 hle2
  go_wp2_with fail
  rw [EA.out]
  refine (tv_any _ b A C HT2).mono ?_
  rw [HV.out]
  rintro e w3 ⟨rfl, hw3⟩
  obtain rfl := hw3.symm
  clear hw3
  go_wp2_with fail
  refine (vb_calls _ bk none A C HB2).mono ?_
  rw [HV.out]
  rintro e w3 ⟨rfl, mo3, hB3, hG3⟩
  have hmk := run_make_row' (P := Try.prog) 22 3 (.int .i64 0) 8 Try.underlying22 lint_info rfl .i64 .i64 A (by omega) (by omega)
  have hsz : (w3.alloc (.cells (madeCells #[.int .i64 0] A) 3)).heap.size = w3.heap.size + 1 := Array.size_push ..
  have HX0 : Hid (∃ mo r, Bk (w3.alloc (.cells (madeCells #[.int .i64 0] A) 3)) bk mo ∧ Gb w2 (w3.alloc (.cells (madeCells #[.int .i64 0] A) 3)) bk none mo ∧ r.length = A ∧ OwnL (w3.alloc (.cells (madeCells #[.int .i64 0] A) 3)) w2.heap.size (.slice (some ⟨w3.heap.size, 0, none⟩) A A) r ∧ TabAt (w3.alloc (.cells (madeCells #[.int .i64 0] A) 3)) b) :=
    ⟨mo3, List.replicate A 0, hB3.alloc _, hG3.alloc _, by simp, OwnL.made w3 hG3.size A (by omega), (HT2.out.bk HB2.out hG3).alloc _⟩
  have hg0 : w2.heap.size ≤ w3.heap.size := hG3.size
  clear hB3 hG3
  go_wp2_with fail
  obtain ⟨wa, hwa⟩ : ∃ wa, w3.alloc (.cells (madeCells #[.int .i64 0] A) 3) = wa := ⟨_, rfl⟩
  obtain ⟨gx, hgx⟩ : ∃ g, w3.heap.size = g := ⟨_, rfl⟩
  rw [hwa, hgx] at HX0
  rw [hgx] at hg0
  rw [hwa, hgx]
  clear hwa hgx hmk hsz
  go_loopw [53] (fun i wr => ∃ q : Nat, q ≤ m ∧ i = .int .i64 q ∧ Hid (∃ mo r, Bk wr bk mo ∧ Gb w2 wr bk none mo ∧ r.length = A ∧ OwnL wr w2.heap.size (.slice (some ⟨gx, 0, none⟩) A A) r ∧ TabAt wr b)) (fun i _ => m - (intOf i).toNat)
  case atStart => exact ⟨0, by omega, rfl, HX0⟩
  case round =>
    clear HX0 w3
    obtain ⟨q, hq, rfl, HX⟩ := hrel
    by_cases hlt : q < m
    · have hlt' : (q : Int) < (m : Int) := by omega
      obtain ⟨mo, r, hB, hG, hr, hO, hT⟩ := HX.out
      have HB : Hid (Bk wr bk mo) := hB
      have HG : Hid (Gb w2 wr bk none mo) := hG
      have HRL : Hid (r.length = A) := hr
      have HO : Hid (OwnL wr w2.heap.size (.slice (some ⟨gx, 0, none⟩) A A) r) := hO
      have HT : Hid (TabAt wr b) := hT
      clear hB hG hr hO hT HX
      have HZ : Hid (Below w.heap.size w wr) := HZ2.out.trans (HG.out.below hbk HZ2.out.size (by simp))
      obtain ⟨bl, off, rfl, c0⟩ := (hL.out.below HZ.out) q hlt
      obtain ⟨f0, f1⟩ := hF.out q hlt
      obtain ⟨z, hz⟩ : ∃ z, f q = z := ⟨_, rfl⟩
      rw [hz] at c0 f0 f1
      clear hz
      obtain ⟨z, rfl⟩ : ∃ z' : Nat, z = z' := ⟨z.toNat, by omega⟩
      obtain ⟨j, hj, hju, _⟩ := emod_nat z hvp
      have EJ : Hid ((z : Int) % (v : Int) = j) := hj
      have HJ : Hid (j < vv A C) := by show j < vv A C; rw [HVV.out]; exact hju
      clear hj
      go_wp2_with fail
      rw [EJ.out]
      refine (unrank_good _ bk mo A C j HJ hA2 hC2 HB).mono ?_
      rintro e w4 ⟨gy, s, rfl, hO4, hl4, hp4, hr4, mo4, hB4, hG4⟩
      have hgxl := (HO.out.lt (g := gx) rfl)
      have hgyl := (hO4.lt (g := gy) rfl)
      have HT4 : Hid (TabAt w4 b) := HT.out.bk HB.out hG4
      have HO4 : Hid (OwnL w4 w2.heap.size (.slice (some ⟨gx, 0, none⟩) A A) r) := HO.out.gb HB.out hG4 hbkl
      have HY4 : Hid (OwnL w4 wr.heap.size (.slice (some ⟨gy, 0, none⟩) A A) s) := hO4
      have HB4 : Hid (Bk w4 bk mo4) := hB4
      have HG4 : Hid (Gb w2 w4 bk none mo4) := HG.out.trans hG4
      have HSL : Hid (s.length = A) := hl4
      have HSP : Hid (pul s = C) := hp4
      have HSR : Hid (rk s C = j) := hr4
      have hne : gx ≠ gy := by omega
      clear hO4 hl4 hp4 hr4 hB4 hG4 HB HG HO HT HZ
      go_wp2_with fail
      rw [EJ.out]
      refine (into_good _ b w2.heap.size _ r A C j HJ hA2 hC2 HT4 HO4 HRL).mono ?_
      rintro e w5 ⟨rfl, t, hO5, hl5, hp5, hr5, hG5⟩
      have et : t = s := rk_inj (hl5.trans HSL.out.symm) (by rw [hl5]; exact hA2) hC2 hp5 HSP.out (by rw [hr5, HSR.out])
      subst et
      have HT5 : Hid (TabAt w5 b) := HT4.out.kept hG5 (by simp only [Value.ownBlock]; intro e; cases e; omega)
      have HO5 : Hid (OwnL w5 w2.heap.size (.slice (some ⟨gx, 0, none⟩) A A) t) := hO5
      have HX5 : Hid (LAt w5 (some ⟨gx, 0, none⟩) t) := hO5.lat
      have HY5 : Hid (LAt w5 (some ⟨gy, 0, none⟩) t) := (HY4.out.kept hG5 (.inr (by simp only [Value.ownBlock]; intro e; cases e; exact hne rfl))).lat
      have HB5 : Hid (Bk w5 bk mo4) := HB4.out.row HO4.out hbkl hG5
      have HG5 : Hid (Gb w2 w5 bk none mo4) := HG4.out.row' hG5 (fun q e => by cases e; exact hgxl.1)
      clear hO5 hl5 hp5 hr5 hG5 HT4 HO4 HY4 HB4 HG4
      go_wp2_with fail
      refine (ints_same _ _ _ A A A t (by omega) HSL HX5 HY5).mono ?_
      rintro e w6 ⟨rfl, d, rfl⟩
      have HX6 : Hid (LAt (w5.drewN d) (some ⟨gx, 0, none⟩) t) := HX5.out.drewN d
      have HB6 : Hid (Bk (w5.drewN d) bk mo4) := HB5.out.drewN d
      have EK : Hid (((rk t C : Nat) : Int) = (z : Int) % (v : Int)) := by show _ = _; rw [HSR.out, EJ.out]
      go_wp2_with fail
      refine (rank_good _ bk mo4 _ A A t hA2 (Nat.le_refl _) (by omega) HSL C hC2 HSP HX6 HB6).mono ?_
      rw [EK.out]
      rintro e w7 ⟨rfl, mo7, hB7, hG7⟩
      have HX7 : Hid (LAt w7 (some ⟨gx, 0, none⟩) t) := HB6.out.lat hG7 HX6.out
      have HO7 : Hid (OwnL w7 w2.heap.size (.slice (some ⟨gx, 0, none⟩) A A) t) := by
        have h0 : OwnL (w5.drewN d) w2.heap.size (.slice (some ⟨gx, 0, none⟩) A A) t := HO5.out
        exact h0.gb HB6.out hG7 hbkl
      have HT7 : Hid (TabAt w7 b) := by
        have h0 : TabAt (w5.drewN d) b := HT5.out
        exact h0.bk HB6.out hG7
      have HG7 : Hid (Gb w2 w7 bk none mo7) := (HG5.out.drewN' d).trans hG7
      have HB7 : Hid (Bk w7 bk mo7) := hB7
      clear hB7 hG7 HX5 HY5 HO5 HT5 HB5 HG5 HX6 HB6
      go_wp2_with fail
      refine (trank_good _ b _ A A t hA2 (Nat.le_refl _) (by omega) HSL C hC2 HSP HX7 HT7).mono ?_
      rw [EK.out]
      rintro e w8 ⟨rfl, d2, rfl⟩
      have HX8 : Hid (∃ mo r, Bk (w7.drewN d2) bk mo ∧ Gb w2 (w7.drewN d2) bk none mo ∧ r.length = A ∧ OwnL (w7.drewN d2) w2.heap.size (.slice (some ⟨gx, 0, none⟩) A A) r ∧ TabAt (w7.drewN d2) b) :=
        ⟨mo7, t, HB7.out.drewN d2, HG7.out.drewN' d2, HSL.out, HO7.out, HT7.out⟩
      clear HB7 HG7 HO7 HT7 HX7 EK
      clear f0 f1 hju hvp hvb
      set_option maxRecDepth 20000 in
      go_wp2
      go_roundw
      case rel => exact ⟨q + 1, by omega, by go_num, HX8⟩
      case measure => simp [intOf]; omega
    · obtain rfl : q = m := by omega
      obtain ⟨mo, r, hB, hG, hr, hO, hT⟩ := HX.out
      have HZ : Hid (Below w.heap.size w wr) := HZ2.out.trans (hG.below hbk HZ2.out.size (by simp))
      clear hB hG hr hO hT HX
      go_wp2
      go_returns
      exact ⟨rfl, HZ.out⟩

theorem talike_long (n k : Int) (ao : Option Addr) (m cap : Nat) (w : World) (hm : 60 < m) : Calls Try.prog 5 #[.int .u8 n, .int .u8 k, .slice ao m cap] w fun e w' => e = .returned (.bool true) ∧ Below w.heap.size w w' := by
  have hm' : (60 : Int) < m := by omega
  go_enter Try.func5, Try.ntmps5
  go_wp2_with fail
  refine (awake12 _).mono ?_
  rintro e w0 ⟨rfl, hb0⟩
  go_wp2
  go_returns
  exact ⟨rfl, hb0⟩

theorem talike_all {H : Type} {enc : TypeId × Value → H} {base : Nat} (n k : Int) (v : Value) (d : DataW H) (p : List MemPlace) (W : World) (n0 : 0 ≤ n) (n1 : n ≤ 255) (k0 : 0 ≤ k) (k1 : k ≤ 255) (o : Value.okWide Try.prog W .any base 36 v) (kk : DataW.Trod enc Try.prog W 0 (fun _ => true) true 36 v d p) :
    Calls Try.prog 5 #[.int .u8 n, .int .u8 k, v] W fun e w' => e = .returned (.bool true) ∧ Below W.heap.size W w' := by
  obtain ⟨ao, m, cap, f, rfl, hc, hc2, hL, hW⟩ := open_ints_at Try.underlying36 Try.underlying26 (by kernel_rfl) o kk
  by_cases h60 : m ≤ 60
  · exact talike_law n k ao m cap f W n0 n1 k0 k1 hL (fun i hi => bounds_u64 (hW i hi)) h60
  · exact talike_long n k ao m cap W (by omega)
end Go.Proofs.Ytejappandbooeaa
