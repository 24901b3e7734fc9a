/-
  The law TableTells of layer 12 (table) as a walk: called at any input it returns true, and nothing that was there has turned.
-/
import Derived.Test.YtejappandbooeaaTableLaws
namespace Go.Proofs.Ytejappandbooeaa
set_option linter.unusedVariables false
open Go.ChangeShapes Go.WideShapes Go.ChangeAt Go.RowKit

theorem ttells_long (n k : Int) (ao : Option Addr) (m cap : Nat) (w : World) (hm : 60 < m) : Calls Try.prog 3 #[.int .i64 n, .int .i64 k, .slice ao m cap] w fun e w' => e = .returned (.bool true) ∧ Below w.heap.size w w' := by
  have hm' : (60 : Int) < m := by omega
  go_enter Try.func3, Try.ntmps3
  go_wp2_with fail
  refine (awake12 _).mono ?_
  rintro e w0 ⟨rfl, hb0⟩
  go_wp2
  go_returns
  exact ⟨rfl, hb0⟩

set_option maxHeartbeats 1000000 in
theorem ttells_bad (n k : Int) (ao : Option Addr) (m cap : Nat) (r : List Int) (w : World) (hm : m ≤ 60) (hc : m ≤ cap) (hc2 : cap ≤ 9223372036854775807) (hr : Hid (r.length = m)) (hw : Hid (WfL r)) (h : Hid (LAt w ao r)) (hbad : Hid (16 < m ∨ ¬ pul r ≤ 32)) :
    Calls Try.prog 3 #[.int .i64 n, .int .i64 k, .slice ao m cap] w fun e w' => e = .returned (.bool true) ∧ Below w.heap.size w w' := by
  have hm' : ¬ (60 : Int) < m := by omega
  obtain ⟨v, hv⟩ : ∃ v, vI n k = v := ⟨_, rfl⟩
  have HV : Hid (vI n k = v) := hv
  clear hv
  go_enter Try.func3, Try.ntmps3
  go_wp2_with fail
  refine (awake12 _).mono ?_
  rintro e w0 ⟨rfl, hb0⟩
  have HL0 : Hid (LAt w0 ao r) := h.out.below hb0
  have HZ0 : Hid (Below w.heap.size w w0) := hb0
  clear hb0
  go_wp2_with fail
  refine (tnew_any _).mono ?_
  rintro e w1 ⟨b, rfl, hb, hT, hb1⟩
  have HL1 : Hid (LAt (w1.alloc (.cells #[] 3)) ao r) := (HL0.out.below hb1).alloc _
  have HT1 : Hid (TabAt (w1.alloc (.cells #[] 3)) b) := hT.alloc _
  have HZ1 : Hid (Below w.heap.size w (w1.alloc (.cells #[] 3))) := (HZ0.out.trans (hb1.mono HZ0.out.size)).alloc (by have := HZ0.out.size; have := hb1.size; omega) _
  have HE1 : Hid (OwnL (w1.alloc (.cells #[] 3)) w.heap.size (.slice (some ⟨w1.heap.size, 0, none⟩) 0 0) []) := OwnL.empty w1 (by have := HZ0.out.size; have := hb1.size; omega)
  have hbl := hT.lt
  have hz1 : w.heap.size ≤ w1.heap.size := by have := HZ0.out.size; have := hb1.size; omega
  clear hT hb1 HL0 HZ0 hb
  go_wp2_with (at_builtin; refine wpList_catA rfl _ _ rfl w.heap.size _ [] rfl HE1.out ao m cap r rfl hr.out HL1.out (by decide) (by omega) HZ1.out.size ?_; intro v' w2 h2 h3 h4)
  rw [List.nil_append] at h2
  obtain ⟨bo, cb, ev, _, _, _⟩ := h2.slice
  rw [hr.out] at ev
  subst ev
  have HB2 : Hid (LAt w2 bo r) := h2.lat
  have HZ2 : Hid (Below w.heap.size w w2) := HZ1.out.grown h3 HZ1.out.size (fun q e => by cases e; exact hz1)
  have HL2 : Hid (LAt w2 ao r) := h.out.below HZ2.out
  have HT2 : Hid (TabAt w2 b) := HT1.out.kept h3 (by simp only [Value.ownBlock]; intro e; cases e; exact absurd hbl (Nat.lt_irrefl _))
  clear h2 h3 h4 HE1 HZ1 HT1 HL1 hbl
  refine (trank_bad _ b ao m cap r hm hr hw HL2 hbad).mono ?_
  rintro e w3 ⟨rfl, hw3⟩
  obtain rfl := hw3.symm
  clear hw3
  go_wp2_with fail
  refine (rr12_bad _ ao m cap r hm hr hw HL2 hbad).mono ?_
  rintro e w3 ⟨rfl, hw3⟩
  obtain rfl := hw3.symm
  clear hw3
  go_wp2_with fail
  refine (tv_any _ b n k HT2).mono ?_
  rw [HV.out]
  rintro e w3 ⟨rfl, hw3⟩
  obtain rfl := hw3.symm
  clear hw3
  go_wp2_with fail
  refine (rv12 _ n k).mono ?_
  rw [HV.out]
  rintro e w3 ⟨rfl, hw3⟩
  obtain rfl := hw3.symm
  clear hw3
  go_wp2_with fail
  refine (ints_same _ ao bo m cap cb r hm hr HL2 HB2).mono ?_
  rintro e w3 ⟨rfl, d, rfl⟩
  go_wp2
  go_returns
  exact ⟨rfl, HZ2.out.os, HZ2.out.tape, HZ2.out.output, HZ2.out.size, HZ2.out.block⟩

set_option maxHeartbeats 1000000 in
theorem ttells_good (n k : Int) (ao : Option Addr) (m cap : Nat) (r : List Int) (w : World) (hm16 : m ≤ 16) (hc : m ≤ cap) (hc2 : cap ≤ 9223372036854775807) (hr : Hid (r.length = m)) (hw : Hid (WfL r)) (h : Hid (LAt w ao r)) (p : Nat) (hp2 : p ≤ 32) (hp : Hid (pul r = p)) :
    Calls Try.prog 3 #[.int .i64 n, .int .i64 k, .slice ao m cap] w fun e w' => e = .returned (.bool true) ∧ Below w.heap.size w w' := by
  have hm' : ¬ (60 : Int) < m := by omega
  obtain ⟨v, hv⟩ : ∃ v, vI n k = v := ⟨_, rfl⟩
  have HV : Hid (vI n k = v) := hv
  clear hv
  obtain ⟨R, hR⟩ : ∃ R, rk r p = R := ⟨_, rfl⟩
  have HR : Hid (rk r p = R) := hR
  clear hR
  go_enter Try.func3, Try.ntmps3
  go_wp2_with fail
  refine (awake12 _).mono ?_
  rintro e w0 ⟨rfl, hb0⟩
  have HL0 : Hid (LAt w0 ao r) := h.out.below hb0
  have HZ0 : Hid (Below w.heap.size w w0) := hb0
  clear hb0
  go_wp2_with fail
  refine (tnew_any _).mono ?_
  rintro e w1 ⟨b, rfl, hb, hT, hb1⟩
  have HL1 : Hid (LAt (w1.alloc (.cells #[] 3)) ao r) := (HL0.out.below hb1).alloc _
  have HT1 : Hid (TabAt (w1.alloc (.cells #[] 3)) b) := hT.alloc _
  have HZ1 : Hid (Below w.heap.size w (w1.alloc (.cells #[] 3))) := (HZ0.out.trans (hb1.mono HZ0.out.size)).alloc (by have := HZ0.out.size; have := hb1.size; omega) _
  have HE1 : Hid (OwnL (w1.alloc (.cells #[] 3)) w.heap.size (.slice (some ⟨w1.heap.size, 0, none⟩) 0 0) []) := OwnL.empty w1 (by have := HZ0.out.size; have := hb1.size; omega)
  have hbl := hT.lt
  have hz1 : w.heap.size ≤ w1.heap.size := by have := HZ0.out.size; have := hb1.size; omega
  clear hT hb1 HL0 HZ0 hb
  go_wp2_with (at_builtin; refine wpList_catA rfl _ _ rfl w.heap.size _ [] rfl HE1.out ao m cap r rfl hr.out HL1.out (by decide) (by omega) HZ1.out.size ?_; intro v' w2 h2 h3 h4)
  rw [List.nil_append] at h2
  obtain ⟨bo, cb, ev, _, _, _⟩ := h2.slice
  rw [hr.out] at ev
  subst ev
  have HB2 : Hid (LAt w2 bo r) := h2.lat
  have HZ2 : Hid (Below w.heap.size w w2) := HZ1.out.grown h3 HZ1.out.size (fun q e => by cases e; exact hz1)
  have HL2 : Hid (LAt w2 ao r) := h.out.below HZ2.out
  have HT2 : Hid (TabAt w2 b) := HT1.out.kept h3 (by simp only [Value.ownBlock]; intro e; cases e; exact absurd hbl (Nat.lt_irrefl _))
  clear h2 h3 h4 HE1 HZ1 HT1 HL1 hbl
  refine (trank_good _ b ao m cap r hm16 hc hc2 hr p hp2 hp HL2 HT2).mono ?_
  rw [HR.out]
  rintro e w3 ⟨rfl, d, rfl⟩
  have HL3 : Hid (LAt (w2.drewN d) ao r) := HL2.out.drewN d
  go_wp2_with fail
  refine (rr12_good _ ao m cap r hm16 hc hc2 hr hw HL3 p hp2 hp).mono ?_
  rw [HR.out]
  rintro e w3 ⟨rfl, d2, rfl⟩
  have HL4 : Hid (LAt (w2.drewN (d + d2)) ao r) := HL2.out
  have HB4 : Hid (LAt (w2.drewN (d + d2)) bo r) := HB2.out
  have HT4 : Hid (TabAt (w2.drewN (d + d2)) b) := HT2.out
  go_wp2_with fail
  refine (tv_any _ b n k HT4).mono ?_
  rw [HV.out]
  rintro e w3 ⟨rfl, rfl⟩
  go_wp2_with fail
  refine (rv12 _ n k).mono ?_
  rw [HV.out]
  rintro e w3 ⟨rfl, rfl⟩
  go_wp2_with fail
  refine (ints_same _ ao bo m cap cb r (by omega) hr HL4 HB4).mono ?_
  rintro e w3 ⟨rfl, d3, rfl⟩
  go_wp2
  go_returns
  exact ⟨rfl, HZ2.out.os, HZ2.out.tape, HZ2.out.output, HZ2.out.size, HZ2.out.block⟩

theorem ttells_law {H : Type} {enc : TypeId × Value → H} {base : Nat} (n k : Int) (v : Value) (d : DataW H) (p : List MemPlace) (W : World) (o : Value.okWide Try.prog W .any base 22 v) (kk : DataW.Trod enc Try.prog W 0 (fun _ => true) true 22 v d p) :
    Calls Try.prog 3 #[.int .i64 n, .int .i64 k, v] W fun e w' => e = .returned (.bool true) ∧ Below W.heap.size W w' := by
  obtain ⟨ao, m, cap, f, rfl, hc, hc2, hL, hW⟩ := open_ints_at Try.underlying22 Try.underlying3 (by kernel_rfl) o kk
  have hl : ((List.range m).map f).length = m := by simp
  have hA := LAt.of_ints hL
  have hF := WfL.of_wf hW
  generalize (List.range m).map f = r at hl hA hF
  by_cases h60 : m ≤ 60
  · by_cases hgood : m ≤ 16 ∧ pul r ≤ 32
    · exact ttells_good n k ao m cap r W hgood.1 hc hc2 hl hF hA (pul r) hgood.2 rfl
    · exact ttells_bad n k ao m cap r W h60 hc hc2 hl hF hA (by show 16 < m ∨ ¬ pul r ≤ 32; omega)
  · exact ttells_long n k ao m cap W (by omega)
end Go.Proofs.Ytejappandbooeaa
