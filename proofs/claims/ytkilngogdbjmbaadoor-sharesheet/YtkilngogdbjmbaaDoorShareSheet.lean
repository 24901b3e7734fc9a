/-
  The law ShareSheet of layer 15 (share) as a walk: called at any two numbers it returns true, and nothing that was there has turned.
-/
import Derived.Test.YtkilngogdbjmbaaDoorShareAwake
namespace Go.Proofs.YtkilngogdbjmbaaDoor
set_option linter.unusedVariables false
set_option maxRecDepth 20000
open Go.ChangeShapes Go.WideShapes Go.ChangeAt Go.RowKit

set_option maxHeartbeats 4000000 in
theorem ssheet_law (n k : Int) (w : World) (hT : Hid (WTab w)) : Calls Tryd.prog 6 #[.int .i64 n, .int .i64 k] w fun e w' => e = .returned (.bool true) ∧ Below w.heap.size w w' := by
  have hbb := btI_bd n k
  obtain ⟨x, hx⟩ : ∃ x, btI n k = x := ⟨_, rfl⟩
  have HX : Hid (btI n k = x) := hx
  obtain ⟨c, hc⟩ : ∃ c, capI n = c := ⟨_, rfl⟩
  have HC : Hid (capI n = c) := hc
  clear hx hc
  go_enter Tryd.func6, Tryd.ntmps6
  go_wp2_with fail
  refine (awake15 _ hT).mono ?_
  rintro e w0 ⟨rfl, hb0⟩
  have HB0 : Hid (Below w.heap.size w w0) := hb0
  clear hb0
  go_wp2_with fail
  refine (fresh_any _).mono ?_
  rintro e w1 ⟨b, q, rfl, hS1, hle1, hle1', hb1⟩
  have HB1 : Hid (Below w.heap.size w w1) := HB0.out.trans (hb1.mono HB0.out.size)
  have HS1 : Hid (SrAt w1 b q) := hS1
  clear hS1 hle1 hle1' hb1 HB0
  go_wp2_with fail
  refine (newb_calls _).mono ?_
  rintro e w2 ⟨bk, rfl, hB2, hb2, hle2⟩
  have HK2 : Hid (Bk w2 bk none) := hB2
  have HS2 : Hid (SrAt w2 b q) := HS1.out.below hb2
  have HB2 : Hid (Below w.heap.size w w2) := HB1.out.trans (hb2.mono HB1.out.size)
  have hle : w.heap.size ≤ bk := Nat.le_trans HB1.out.size hle2
  clear hB2 hb2 hle2 HB1 HS1
  have c1 := HS2.out.ptr
  go_wp2_with fail
  refine (sbits_any _ q n k HS2.out.sh).mono ?_
  rw [HX.out]
  rintro e w3 ⟨rfl, hw⟩
  obtain rfl := hw.symm
  clear hw
  go_wp2_with fail
  refine (bits_any _ bk none n k HK2).mono ?_
  rw [HX.out]
  rintro e w4 ⟨rfl, mo4, hB4, hG4⟩
  have HK4 : Hid (Bk w4 bk mo4) := hB4
  have HG4 : Hid (Gb w2 w4 bk none mo4) := hG4
  have HS4 : Hid (SrAt w4 b q) := HS2.out.bk HK2.out hG4
  clear hB4 hG4 c1
  have c1 := HS4.out.ptr
  go_wp2_with fail
  refine (scap_any _ q n HS4.out.sh).mono ?_
  rw [HC.out]
  rintro e w5 ⟨rfl, hw⟩
  obtain rfl := hw.symm
  clear hw
  go_wp2_with fail
  refine (cap_any _ bk mo4 n HK4).mono ?_
  rw [HC.out]
  rintro e w6 ⟨rfl, mo6, hB6, hG6⟩
  have HB6 : Hid (Below w.heap.size w w6) := below_book HB2.out hle (HG4.out.trans hG6)
  clear hB6 hG6 c1
  go_wp2
  go_returns
  exact ⟨rfl, HB6.out⟩
end Go.Proofs.YtkilngogdbjmbaaDoor
