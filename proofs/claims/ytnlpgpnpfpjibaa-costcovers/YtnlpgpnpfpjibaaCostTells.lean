/-
  The document's example of layer 13 (cost), and the law CostTells as a walk: called at any input it returns true, and nothing that was there has turned.
-/
import Derived.Test.YtnlpgpnpfpjibaaCostNew
import Derived.Test.YtnlpgpnpfpjibaaCostBits
import Derived.Test.YtnlpgpnpfpjibaaCostRef2
namespace Go.Proofs.Ytnlpgpnpfpjibaa
set_option linter.unusedVariables false
open Go.ChangeShapes Go.WideShapes Go.ChangeAt Go.RowKit

/-- A book, a table, a sheet of it: all of them new. -/
theorem new3 (w : World) {w1 w2 w3 : World} {b : Nat} (hb1 : Below w.heap.size w w1) (hB : Bk w1 b none) (hle : w.heap.size ≤ b) (hb2 : Below w1.heap.size w1 w2) (hb3 : Below w2.heap.size w2 w3) :
    Bk w3 b none ∧ Below w.heap.size w w3 :=
  ⟨(hB.keep ⟨hb2.os, hb2.tape, hb2.output, hb2.size, fun i hi _ => hb2.block i hi⟩).keep ⟨hb3.os, hb3.tape, hb3.output, hb3.size, fun i hi _ => hb3.block i hi⟩,
   (hb1.trans (hb2.mono hb1.size)).trans (hb3.mono (Nat.le_trans hb1.size hb2.size))⟩

set_option maxHeartbeats 1000000 in
theorem awake13 (w : World) : Calls Try.prog 7 #[] w fun e w' => e = .returned (.bool true) ∧ Below w.heap.size w w' := by
  have e1 : Hid (btI 2 3 = 5) := by show btI 2 3 = 5; decide
  go_enter Try.func7, Try.ntmps7
  go_wp2_with fail
  refine (newb_calls _).mono ?_
  rintro e w1 ⟨b, rfl, hB1, hb1, hle⟩
  have HB1 : Hid (Bk w1 b none) := hB1
  go_wp2_with fail
  refine (bits_any _ b none 2 3 HB1).mono ?_
  rw [e1.out]
  rintro e w2 ⟨rfl, mo2, hB2, hG2⟩
  have HY2 : Hid (Below w.heap.size w w2) := below_book hb1 hle hG2
  clear hB1 hB2 hG2 hb1 hle
  go_wp2_with fail
  refine (tnew_any _).mono ?_
  rintro e w3 ⟨tb, rfl, hle3, hT3, hb3⟩
  have HT3 : Hid (TabAt w3 tb) := hT3
  have HY3 : Hid (Below w.heap.size w w3) := HY2.out.trans (hb3.mono HY2.out.size)
  clear hb3 hT3 hle3
  go_wp2_with fail
  refine (snew_any _ tb HT3).mono ?_
  rintro e w4 ⟨sb, rfl, hle4, hS4, hb4⟩
  have HS4 : Hid (ShAt w4 sb) := hS4
  have HY4 : Hid (Below w.heap.size w w4) := HY3.out.trans (hb4.mono HY3.out.size)
  clear hb4 hS4 hle4
  go_wp2_with fail
  refine (sbits_any _ sb 2 3 HS4).mono ?_
  rw [e1.out]
  rintro e w5 ⟨rfl, hw⟩
  obtain rfl := hw.symm
  clear hw
  go_wp2
  go_returns
  exact ⟨rfl, HY4.out⟩

set_option maxHeartbeats 1000000 in
theorem ctells_law (n k : Int) (w : World) : Calls Try.prog 3 #[.int .i64 n, .int .i64 k] w fun e w' => e = .returned (.bool true) ∧ Below w.heap.size w w' := by
  obtain ⟨c, hc⟩ : ∃ c, capI n = c := ⟨_, rfl⟩
  obtain ⟨x, hx⟩ : ∃ x, btI n k = x := ⟨_, rfl⟩
  have HC : Hid (capI n = c) := hc
  have HX : Hid (btI n k = x) := hx
  clear hc hx
  go_enter Try.func3, Try.ntmps3
  go_wp2_with fail
  refine (awake13 _).mono ?_
  rintro e w0 ⟨rfl, hb0⟩
  have HY0 : Hid (Below w.heap.size w w0) := hb0
  clear hb0
  go_wp2_with fail
  refine (newb_calls _).mono ?_
  rintro e w1 ⟨b, rfl, hB1, hb1, hle⟩
  go_wp2_with fail
  refine (tnew_any _).mono ?_
  rintro e w2 ⟨tb, rfl, hle2, hT2, hb2⟩
  have HT2 : Hid (TabAt w2 tb) := hT2
  go_wp2_with fail
  refine (snew_any _ tb HT2).mono ?_
  rintro e w3 ⟨sb, rfl, hle3, hS3, hb3⟩
  obtain ⟨hB3, hY3⟩ := new3 w0 hb1 hB1 hle hb2 hb3
  have HB3 : Hid (Bk w3 b none) := hB3
  have HS3 : Hid (ShAt w3 sb) := hS3
  have HY3 : Hid (Below w0.heap.size w0 w3) := hY3
  clear hB1 hb1 hle2 hT2 hb2 hle3 hS3 hb3 hB3 hY3 HT2
  go_wp2_with fail
  refine (rcap_any _ n).mono ?_
  rw [HC.out]
  rintro e w4 ⟨rfl, hb4⟩
  have HB4 : Hid (Bk w4 b none) := HB3.out.keep ⟨hb4.os, hb4.tape, hb4.output, hb4.size, fun i hi _ => hb4.block i hi⟩
  have HS4 : Hid (ShAt w4 sb) := HS3.out.below hb4
  have HY4 : Hid (Below w0.heap.size w0 w4) := HY3.out.trans (hb4.mono HY3.out.size)
  clear hb4 HB3 HS3 HY3
  go_wp2_with fail
  refine (rbits_any _ n k).mono ?_
  rw [HX.out]
  rintro e w5 ⟨rfl, hb5⟩
  have HB5 : Hid (Bk w5 b none) := HB4.out.keep ⟨hb5.os, hb5.tape, hb5.output, hb5.size, fun i hi _ => hb5.block i hi⟩
  have HS5 : Hid (ShAt w5 sb) := HS4.out.below hb5
  have HY5 : Hid (Below w0.heap.size w0 w5) := HY4.out.trans (hb5.mono HY4.out.size)
  clear hb5 HB4 HS4 HY4
  go_wp2_with fail
  refine (cap_any _ b none n HB5).mono ?_
  rw [HC.out]
  rintro e w6 ⟨rfl, mo6, hB6, hG6⟩
  have HB6 : Hid (Bk w6 b mo6) := hB6
  have HS6 : Hid (ShAt w6 sb) := HS5.out.bk HB5.out hG6
  have HG6 : Hid (Gb w5 w6 b none mo6) := hG6
  clear hB6 hG6 HS5 HB5
  go_wp2_with fail
  refine (scap_any _ sb n HS6).mono ?_
  rw [HC.out]
  rintro e w7 ⟨rfl, hw⟩
  obtain rfl := hw.symm
  clear hw
  go_wp2_with fail
  refine (bits_any _ b mo6 n k HB6).mono ?_
  rw [HX.out]
  rintro e w7 ⟨rfl, mo7, hB7, hG7⟩
  have HS7 : Hid (ShAt w7 sb) := HS6.out.bk HB6.out hG7
  have HY7 : Hid (Below w.heap.size w w7) := HY0.out.trans ((below_book HY5.out hle (HG6.out.trans hG7)).mono HY0.out.size)
  clear hB7 hG7 HS6 HB6 HG6
  go_wp2_with fail
  refine (sbits_any _ sb n k HS7).mono ?_
  rw [HX.out]
  rintro e w8 ⟨rfl, hw⟩
  obtain rfl := hw.symm
  clear hw
  go_wp2
  go_returns
  exact ⟨rfl, HY7.out⟩
end Go.Proofs.Ytnlpgpnpfpjibaa
