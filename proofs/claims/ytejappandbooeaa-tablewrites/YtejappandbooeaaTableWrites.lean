/-
  The law TableWrites of layer 12 (table) as a walk: called at any input it returns true, and nothing that was there has turned.
-/
import Derived.Test.YtejappandbooeaaTableLaws
namespace Go.Proofs.Ytejappandbooeaa
set_option linter.unusedVariables false
open Go.ChangeShapes Go.WideShapes Go.ChangeAt Go.RowKit

theorem twrites_long (k : Int) (i : Nat) (ao : Option Addr) (m cap : Nat) (w : World) (hm : 60 < m) : Calls Try.prog 4 #[.slice ao m cap, .int .i64 k, .int .u64 i] w fun e w' => e = .returned (.bool true) ∧ Below w.heap.size w w' := by
  have hm' : (60 : Int) < m := by omega
  go_enter Try.func4, Try.ntmps4
  go_wp2_with fail
  refine (awake12 _).mono ?_
  rintro e w0 ⟨rfl, hb0⟩
  go_wp2
  go_returns
  exact ⟨rfl, hb0⟩

set_option maxHeartbeats 1000000 in
theorem twrites_bad (k : Int) (i : Nat) (ao : Option Addr) (m cap : Nat) (r : List Int) (w : World) (hm : m ≤ 60) (hi : i ≤ 18446744073709551615) (hr : Hid (r.length = m)) (h : Hid (LAt w ao r)) (hlt : Hid (¬ i < vI m k)) :
    Calls Try.prog 4 #[.slice ao m cap, .int .i64 k, .int .u64 i] w fun e w' => e = .returned (.bool true) ∧ Below w.heap.size w w' := by
  have hm' : ¬ (60 : Int) < m := by omega
  have hvb := vI_bd m k
  obtain ⟨v, hv⟩ : ∃ v, vI m k = v := ⟨_, rfl⟩
  have HV : Hid (vI m k = v) := hv
  have hle : (v : Int) ≤ (i : Int) := by have := hlt.out; rw [hv] at this; omega
  rw [hv] at hvb
  clear hv
  go_enter Try.func4, Try.ntmps4
  go_wp2_with fail
  refine (awake12 _).mono ?_
  rintro e w0 ⟨rfl, hb0⟩
  have HL0 : Hid (LAt w0 ao r) := h.out.below hb0
  have HZ0 : Hid (Below w.heap.size w w0) := hb0
  clear hb0
  go_wp2_with fail
  refine (tnew_any _).mono ?_
  rintro e w1 ⟨b, rfl, hb, hT, hb1⟩
  have HL1 : Hid (LAt (w1.alloc (.cells #[] 3)) ao r) := (HL0.out.below hb1).alloc _
  have HT1 : Hid (TabAt (w1.alloc (.cells #[] 3)) b) := hT.alloc _
  have HZ1 : Hid (Below w.heap.size w (w1.alloc (.cells #[] 3))) := (HZ0.out.trans (hb1.mono HZ0.out.size)).alloc (by have := HZ0.out.size; have := hb1.size; omega) _
  have HE1 : Hid (OwnL (w1.alloc (.cells #[] 3)) w.heap.size (.slice (some ⟨w1.heap.size, 0, none⟩) 0 0) []) := OwnL.empty w1 (by have := HZ0.out.size; have := hb1.size; omega)
  have hbl := hT.lt
  have hz1 : w.heap.size ≤ w1.heap.size := by have := HZ0.out.size; have := hb1.size; omega
  clear hT hb1 HL0 HZ0 hb
  go_wp2_with (at_builtin; refine wpList_catA rfl _ _ rfl w.heap.size _ [] rfl HE1.out ao m cap r rfl hr.out HL1.out (by decide) (by omega) HZ1.out.size ?_; intro v' w2 h2 h3 h4)
  rw [List.nil_append] at h2
  obtain ⟨bo, cb, ev, _, _, _⟩ := h2.slice
  rw [hr.out] at ev
  subst ev
  have HB2 : Hid (LAt w2 bo r) := h2.lat
  have HZ2 : Hid (Below w.heap.size w w2) := HZ1.out.grown h3 HZ1.out.size (fun q e => by cases e; exact hz1)
  have HL2 : Hid (LAt w2 ao r) := h.out.below HZ2.out
  have HT2 : Hid (TabAt w2 b) := HT1.out.kept h3 (by simp only [Value.ownBlock]; intro e; cases e; exact absurd hbl (Nat.lt_irrefl _))
  have HO2 : Hid (OwnL w2 w.heap.size (.slice bo m cb) r) := h2
  have HNE : Hid (∀ q, (Value.slice bo m cb).ownBlock = some q → q ≠ b) := by
    intro q hq
    rcases h4 with e1 | e1
    · rw [hq] at e1
      cases e1
      exact Nat.ne_of_gt hbl
    · rw [hq] at e1
      have hs : (w1.alloc (.cells #[] 3)).heap.size = w1.heap.size + 1 := Array.size_push ..
      rw [hs] at e1
      cases e1
      omega
  clear h2 h3 h4 HE1 HZ1 HT1 HL1 hbl
  refine (rv12 _ m k).mono ?_
  rw [HV.out]
  rintro e w3 ⟨rfl, hw3⟩
  obtain rfl := hw3.symm
  clear hw3
  go_wp2_with fail
  refine (into_bad _ b bo m cb k i hm hi HT2 hlt).mono ?_
  rintro e w3 ⟨rfl, hw3⟩
  obtain rfl := hw3.symm
  clear hw3
  go_wp2_with fail
  refine (ints_same _ ao bo m cap cb r hm hr HL2 HB2).mono ?_
  rintro e w3 ⟨rfl, d, rfl⟩
  go_wp2
  go_returns
  exact ⟨rfl, HZ2.out.os, HZ2.out.tape, HZ2.out.output, HZ2.out.size, HZ2.out.block⟩

set_option maxHeartbeats 1000000 in
theorem twrites_good (k i : Nat) (ao : Option Addr) (m cap : Nat) (r : List Int) (w : World) (hm16 : m ≤ 16) (hk : k ≤ 32) (hr : Hid (r.length = m)) (h : Hid (LAt w ao r)) (hlt : Hid (i < vv m k)) :
    Calls Try.prog 4 #[.slice ao m cap, .int .i64 k, .int .u64 i] w fun e w' => e = .returned (.bool true) ∧ Below w.heap.size w w' := by
  have hm' : ¬ (60 : Int) < m := by omega
  have hvb := vv_bd hm16 hk
  obtain ⟨v, hv⟩ : ∃ v, vv m k = v := ⟨_, rfl⟩
  have HV : Hid (vI (m : Int) (k : Int) = v) := by show vI _ _ = v; rw [vI_nat hm16 hk, hv]
  have hle : (i : Int) < (v : Int) := by have := hlt.out; rw [hv] at this; omega
  rw [hv] at hvb
  clear hv
  go_enter Try.func4, Try.ntmps4
  go_wp2_with fail
  refine (awake12 _).mono ?_
  rintro e w0 ⟨rfl, hb0⟩
  have HL0 : Hid (LAt w0 ao r) := h.out.below hb0
  have HZ0 : Hid (Below w.heap.size w w0) := hb0
  clear hb0
  go_wp2_with fail
  refine (tnew_any _).mono ?_
  rintro e w1 ⟨b, rfl, hb, hT, hb1⟩
  have HL1 : Hid (LAt (w1.alloc (.cells #[] 3)) ao r) := (HL0.out.below hb1).alloc _
  have HT1 : Hid (TabAt (w1.alloc (.cells #[] 3)) b) := hT.alloc _
  have HZ1 : Hid (Below w.heap.size w (w1.alloc (.cells #[] 3))) := (HZ0.out.trans (hb1.mono HZ0.out.size)).alloc (by have := HZ0.out.size; have := hb1.size; omega) _
  have HE1 : Hid (OwnL (w1.alloc (.cells #[] 3)) w.heap.size (.slice (some ⟨w1.heap.size, 0, none⟩) 0 0) []) := OwnL.empty w1 (by have := HZ0.out.size; have := hb1.size; omega)
  have hbl := hT.lt
  have hz1 : w.heap.size ≤ w1.heap.size := by have := HZ0.out.size; have := hb1.size; omega
  clear hT hb1 HL0 HZ0 hb
  go_wp2_with (at_builtin; refine wpList_catA rfl _ _ rfl w.heap.size _ [] rfl HE1.out ao m cap r rfl hr.out HL1.out (by decide) (by omega) HZ1.out.size ?_; intro v' w2 h2 h3 h4)
  rw [List.nil_append] at h2
  obtain ⟨bo, cb, ev, _, _, _⟩ := h2.slice
  rw [hr.out] at ev
  subst ev
  have HB2 : Hid (LAt w2 bo r) := h2.lat
  have HZ2 : Hid (Below w.heap.size w w2) := HZ1.out.grown h3 HZ1.out.size (fun q e => by cases e; exact hz1)
  have HL2 : Hid (LAt w2 ao r) := h.out.below HZ2.out
  have HT2 : Hid (TabAt w2 b) := HT1.out.kept h3 (by simp only [Value.ownBlock]; intro e; cases e; exact absurd hbl (Nat.lt_irrefl _))
  have HO2 : Hid (OwnL w2 w.heap.size (.slice bo m cb) r) := h2
  have HNE : Hid (∀ q, (Value.slice bo m cb).ownBlock = some q → q ≠ b) := by
    intro q hq
    rcases h4 with e1 | e1
    · rw [hq] at e1
      cases e1
      exact Nat.ne_of_gt hbl
    · rw [hq] at e1
      have hs : (w1.alloc (.cells #[] 3)).heap.size = w1.heap.size + 1 := Array.size_push ..
      rw [hs] at e1
      cases e1
      omega
  clear h2 h3 h4 HE1 HZ1 HT1 HL1 hbl
  refine (rv12 _ m k).mono ?_
  rw [HV.out]
  rintro e w3 ⟨rfl, hw3⟩
  obtain rfl := hw3.symm
  clear hw3
  go_wp2_with fail
  refine (into_good _ b w.heap.size (.slice bo m cb) r m k i hlt hm16 hk HT2 HO2 hr).mono ?_
  rintro e w3 ⟨rfl, s, hO, hl, hp, hrk, hG⟩
  have HT3 : Hid (TabAt w3 b) := by
    refine HT2.out.kept hG ?_
    intro e
    exact HNE.out b e.symm rfl
  have HZ3 : Hid (Below w.heap.size w w3) := HZ2.out.grown hG HZ2.out.size (fun q e => (HO2.out.lt e).1)
  have HB3 : Hid (LAt w3 bo s) := hO.lat
  have HL3 : Hid (s.length = m) := hl
  have HP3 : Hid (pul s = k) := hp
  have HR3 : Hid (rk s k = i) := hrk
  have HW3 : Hid (WfL s) := WfL.pul (by omega)
  have hcb : m ≤ cb ∧ cb ≤ 9223372036854775807 := by
    obtain ⟨_, _, e, h1, h2, _⟩ := hO.slice
    cases e
    unfold maxLen at h2
    omega
  clear hO hl hp hrk hG HB2 HL2 HT2 HZ2 HO2
  go_wp2_with fail
  refine (rpul_any _ bo m cb s hm16 HL3 k HP3 hk HB3).mono ?_
  rintro e w4 ⟨rfl, hw4⟩
  obtain rfl := hw4.symm
  clear hw4
  go_wp2_with fail
  refine (right_short _ bo m cb s hm16 HL3 HW3 HB3).mono ?_
  rw [decide_eq_true (by rw [HP3.out]; exact hk)]
  rintro e w4 ⟨rfl, hw4⟩
  obtain rfl := hw4.symm
  clear hw4
  go_wp2_with fail
  refine (trank_good _ b bo m cb s hm16 hcb.1 hcb.2 HL3 k hk HP3 HB3 HT3).mono ?_
  rw [HR3.out]
  rintro e w4 ⟨rfl, d, rfl⟩
  have HB4 : Hid (LAt (w3.drewN d) bo s) := HB3.out.drewN d
  go_wp2_with fail
  refine (rrank_any m hm16 _ bo cb s hcb.1 hcb.2 HL3 k hk HP3 HB4).mono ?_
  rw [HR3.out]
  rintro e w4 ⟨rfl, d2, rfl⟩
  go_wp2
  go_returns
  exact ⟨rfl, HZ3.out.os, HZ3.out.tape, HZ3.out.output, HZ3.out.size, HZ3.out.block⟩

theorem twrites_law {H : Type} {enc : TypeId × Value → H} {base : Nat} (v : Value) (d : DataW H) (p : List MemPlace) (k i : Int) (W : World) (hk : (Lit.int .i64 k).wf = true) (hi : (Lit.int .u64 i).wf = true) (o : Value.okWide Try.prog W .any base 22 v) (kk : DataW.Trod enc Try.prog W 0 (fun _ => true) true 22 v d p) :
    Calls Try.prog 4 #[v, .int .i64 k, .int .u64 i] W fun e w' => e = .returned (.bool true) ∧ Below W.heap.size W w' := by
  obtain ⟨ao, m, cap, f, rfl, hc, hc2, hL, hW⟩ := open_ints_at Try.underlying22 Try.underlying3 (by kernel_rfl) o kk
  have hl : ((List.range m).map f).length = m := by simp
  have hA := LAt.of_ints hL
  generalize (List.range m).map f = r at hl hA
  have hib := bounds_u64 hi
  obtain ⟨j, rfl⟩ : ∃ j : Nat, i = j := ⟨i.toNat, by omega⟩
  by_cases h60 : m ≤ 60
  · by_cases hlt : j < vI m k
    · have hin := vI_in hlt
      obtain ⟨c, rfl⟩ : ∃ c : Nat, k = c := ⟨k.toNat, by omega⟩
      exact twrites_good c j ao m cap r W (by omega) (by omega) hl hA (by show j < vv m c; rw [← vI_nat (by omega) (by omega)]; exact hlt)
    · exact twrites_bad k j ao m cap r W h60 (by omega) hl hA hlt
  · exact twrites_long k j ao m cap W (by omega)
end Go.Proofs.Ytejappandbooeaa
