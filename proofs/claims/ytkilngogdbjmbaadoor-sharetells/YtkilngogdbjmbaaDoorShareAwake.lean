/-
  What fresh of the laws of layer 15 makes, and the document's examples (awake). Nothing that was there has turned.
-/
import Derived.Test.YtkilngogdbjmbaaDoorLogRef
import Derived.Test.YtkilngogdbjmbaaDoorShareFind
namespace Go.Proofs.YtkilngogdbjmbaaDoor
set_option linter.unusedVariables false
set_option linter.unusedSimpArgs false
set_option maxRecDepth 20000
open Go.ChangeShapes Go.WideShapes Go.ChangeAt Go.RowKit

theorem share_new (w : World) (q : Nat) : Calls Tryd.prog 22 #[.pointer (some ⟨q, 0, none⟩)] w fun e w' => e = .returned (.pointer (some ⟨w.heap.size, 0, none⟩)) ∧ w' = w.alloc (.cells #[.pointer (some ⟨q, 0, none⟩)] 50) := by
  go_enter Tryd.func22, Tryd.ntmps22
  go_wp2
  go_returns
  exact ⟨rfl, rfl⟩
theorem fresh_any (w : World) : Calls Tryd.prog 8 #[] w fun e w' => ∃ b q, e = .returned (.pointer (some ⟨b, 0, none⟩)) ∧ SrAt w' b q ∧ w.heap.size ≤ b ∧ w.heap.size ≤ q ∧ Below w.heap.size w w' := by
  go_enter Tryd.func8, Tryd.ntmps8
  go_wp2_with fail
  refine (tnew_any _).mono ?_
  rintro e w1 ⟨tb, rfl, hle1, hT1, hb1⟩
  have HT1 : Hid (TabAt w1 tb) := hT1
  go_wp2_with fail
  refine (snew_any _ tb HT1).mono ?_
  rintro e w2 ⟨q, rfl, hle2, hS2, hb2⟩
  have HS2 : Hid (ShAt w2 q) := hS2
  have HB2 : Hid (Below w.heap.size w w2) := hb1.trans (hb2.mono hb1.size)
  have hq : w.heap.size ≤ q := Nat.le_trans hb1.size hle2
  clear hT1 hb1 hle1 HT1 hS2 hb2 hle2
  go_wp2_with fail
  refine (share_new _ q).mono ?_
  rintro e w3 ⟨rfl, hw⟩
  have HB3 : Hid (Below w.heap.size w w3) := by rw [hw]; exact HB2.out.alloc HB2.out.size _
  have HS3 : Hid (SrAt w3 w2.heap.size q) := by
    rw [hw]
    exact ⟨cell_of_row _ _ 0 _ _ _ (heap_alloc_new w2 _), HS2.out.below (gN_below (gN_alloc (gN_refl w2) _))⟩
  have hsz := HB2.out.size
  clear hw HB2
  go_wp2
  go_returns
  exact ⟨w2.heap.size, q, rfl, HS3.out, hsz, hq, HB3.out⟩

theorem SrAt.bk {w w' : World} {b q b' : Nat} {mo mo' : Option Nat} (h : SrAt w b q) (hB : Bk w b' mo) (hG : Gb w w' b' mo mo') : SrAt w' b q := by
  refine ⟨?_, h.sh.bk hB hG⟩
  obtain ⟨S, _, hB⟩ := hB
  have h0 := h.ptr
  have hne : b ≠ b' := by
    intro e
    subst e
    have h1 := cell_of_row _ _ 0 _ _ _ hB.1
    rw [h1] at h0
    cases h0
  cases hh : w.heap[b]? with
  | none => simp [World.cell?, hh] at h0
  | some o =>
    cases o with
    | cells cs t z => rw [World.cell?_of_block (a := ⟨b, 0, none⟩) ((hG.cells hB hh hne).trans hh.symm)]; exact h0
    | _ => simp [World.cell?, hh] at h0

def awF (i j : Nat) : Int := if j = 0 then (if i = 1 then 2 else 1) else 0
theorem awF_wf (i : Nat) : Wf5 (awF i) := fun j _ => by
  unfold awF
  split
  · split <;> rfl
  · rfl
theorem awF_cnt : cnt5 awF (awF 0) 3 = 2 := by decide
theorem awF_best : Best awF 3 (fun _ => True) 2 (awF 0) := ⟨.inr ⟨by omega, 0, by omega, trivial, by decide, by decide⟩, fun i hi _ => by
  unfold Ahead
  match i, hi with
  | 0, _ | 1, _ | 2, _ => decide⟩

set_option maxHeartbeats 4000000 in
theorem awake15 (w : World) (hT : Hid (WTab w)) : Calls Tryd.prog 7 #[] w fun e w' => e = .returned (.bool true) ∧ Below w.heap.size w w' := by
  have hmm := @run_makeMap Tryd.prog
  have e1 : ∀ u, (binOp .eql 25 (.agg #[.int .i64 1, .int .i64 0, .int .i64 0, .int .i64 0, .int .i64 0]) (.agg #[.int .i64 1, .int .i64 0, .int .i64 0, .int .i64 0, .int .i64 0])).run Tryd.prog u = .ok (.bool true) u := fun u => eq5 (awF 0) (awF 0) (by decide) u
  have e2 : ∀ u, (binOp .eql 25 (.agg #[.int .i64 0, .int .i64 0, .int .i64 1, .int .i64 0, .int .i64 0]) (.agg #[.int .i64 0, .int .i64 0, .int .i64 1, .int .i64 0, .int .i64 0])).run Tryd.prog u = .ok (.bool true) u := fun u => eq5 (aMore (fun _ => 0) 2) (aMore (fun _ => 0) 2) (by decide) u
  have HBN : Hid (bandsF 0 1 = ((3 : Nat) : Int)) := ex_bands
  have hl1 : LogIs (w.alloc (.map #[] 0)) w.heap.size 0 (.map []) := World.ownsMap_made _ _ _ _
  have hl2 : LogIs ((w.alloc (.map #[] 0)).alloc (.cells #[.int .i64 1, .int .i64 0, .int .i64 0, .int .i64 0, .int .i64 0, .int .i64 2, .int .i64 0, .int .i64 0, .int .i64 0, .int .i64 0, .int .i64 1, .int .i64 0, .int .i64 0, .int .i64 0, .int .i64 0] 25)) w.heap.size 0 (.map []) := hl1.alloc _
  have HL2 : Hid (LogIs ((w.alloc (.map #[] 0)).alloc (.cells #[.int .i64 1, .int .i64 0, .int .i64 0, .int .i64 0, .int .i64 0, .int .i64 2, .int .i64 0, .int .i64 0, .int .i64 0, .int .i64 0, .int .i64 1, .int .i64 0, .int .i64 0, .int .i64 0, .int .i64 0] 25)) w.heap.size 0 (.map [])) := hl2
  have hrow : ((w.alloc (.map #[] 0)).alloc (.cells #[.int .i64 1, .int .i64 0, .int .i64 0, .int .i64 0, .int .i64 0, .int .i64 2, .int .i64 0, .int .i64 0, .int .i64 0, .int .i64 0, .int .i64 1, .int .i64 0, .int .i64 0, .int .i64 0, .int .i64 0] 25)).heap[w.heap.size + 1]? = some (.cells #[.int .i64 1, .int .i64 0, .int .i64 0, .int .i64 0, .int .i64 0, .int .i64 2, .int .i64 0, .int .i64 0, .int .i64 0, .int .i64 0, .int .i64 1, .int .i64 0, .int .i64 0, .int .i64 0, .int .i64 0] 25) := heap_two _ _ _
  have HA2 : Hid (L5At ((w.alloc (.map #[] 0)).alloc (.cells #[.int .i64 1, .int .i64 0, .int .i64 0, .int .i64 0, .int .i64 0, .int .i64 2, .int .i64 0, .int .i64 0, .int .i64 0, .int .i64 0, .int .i64 1, .int .i64 0, .int .i64 0, .int .i64 0, .int .i64 0] 25)) (some ⟨w.heap.size + 1, 0, none⟩) 3 awF) := by
    intro i hi
    refine ⟨_, _, rfl, fun j hj => ?_⟩
    rw [cell_of_row _ _ _ _ _ _ hrow]
    match i, hi, j, hj with
    | 0, _, 0, _ | 0, _, 1, _ | 0, _, 2, _ | 0, _, 3, _ | 0, _, 4, _ => rfl
    | 1, _, 0, _ | 1, _, 1, _ | 1, _, 2, _ | 1, _, 3, _ | 1, _, 4, _ => rfl
    | 2, _, 0, _ | 2, _, 1, _ | 2, _, 2, _ | 2, _, 3, _ | 2, _, 4, _ => rfl
  have HB2 : Hid (Below w.heap.size w ((w.alloc (.map #[] 0)).alloc (.cells #[.int .i64 1, .int .i64 0, .int .i64 0, .int .i64 0, .int .i64 0, .int .i64 2, .int .i64 0, .int .i64 0, .int .i64 0, .int .i64 0, .int .i64 1, .int .i64 0, .int .i64 0, .int .i64 0, .int .i64 0] 25))) := gN_below (gN_alloc (gN_alloc (gN_refl w) _) _)
  have HTA : Hid (Tal (fun _ => 0) (.map [])) := Tal.none
  have HTB : Hid (∀ f : Nat → Int, (fun _ => 0) f ≤ 0) := fun _ => Nat.le_refl _
  clear hl1 hl2 hrow
  go_enter Tryd.func7, Tryd.ntmps7
  go_wp2_with fail
  refine (add_any _ w.heap.size 0 (.map []) (fun _ => 0) _ 3 3 awF (by omega) HL2 HTA HTB HA2 (fun i _ => awF_wf i)).mono ?_
  rintro e w3 ⟨rfl, hl3, hg3⟩
  have HL3 : Hid (∃ D, LogIs w3 w.heap.size 3 D ∧ Tal (fun f => cnt5 awF f 3) D) := by
    obtain ⟨D, h1, h2⟩ := hl3
    exact ⟨D, h1, h2.congr (fun f => by omega)⟩
  have HB3 : Hid (Below w.heap.size w w3) := HB2.out.grown hg3 HB2.out.size (fun q e => by cases e; exact Nat.le_refl _)
  obtain ⟨D, hD, hTD⟩ := HL3.out
  have HD : Hid (LogIs w3 w.heap.size 3 D) := hD
  have HTD : Hid (Tal (fun f => cnt5 awF f 3) D) := hTD
  clear hl3 hg3 HL2 HA2 HB2 HL3 hD hTD HTA HTB
  go_wp2_with fail
  refine (lmost_any _ w.heap.size 3 D 3 awF (by omega) HD HTD (fun i _ => awF_wf i)).mono ?_
  rintro e w4 ⟨c, f, rfl, hB, hb4⟩
  obtain ⟨rfl, hs⟩ := hB.one awF_best
  have hrow : Value.agg (row5 f) = (.agg #[.int .i64 1, .int .i64 0, .int .i64 0, .int .i64 0, .int .i64 0]) := by rw [row5_same ((same5_iff _ _).1 hs)]; rfl
  rw [hrow]
  have HB4 : Hid (Below w.heap.size w w4) := HB3.out.trans (hb4.mono HB3.out.size)
  have HT4 : Hid (WTab w4) := hT.out.below HB4.out
  clear hB hs hrow hb4 HD HTD HB3
  go_wp2_with fail
  refine (fresh_any _).mono ?_
  rintro e w5 ⟨b, q, rfl, hS5, _, _, hb5⟩
  have HB45 : Hid (Below w.heap.size w (w4.alloc (.cells #[.int .i64 1, .int .i64 0, .int .i64 0, .int .i64 0, .int .i64 0] 25))) := HB4.out.alloc HB4.out.size _
  have HB5 : Hid (Below w.heap.size w w5) := HB45.out.trans (hb5.mono HB45.out.size)
  have HT5 : Hid (WTab w5) := hT.out.below HB5.out
  have HS5 : Hid (SrAt w5 b q) := hS5
  clear hS5 hb5 HB45 HB4 HT4
  go_wp2_with fail
  refine (sall_any _ b q 0 1 7 4 3 HBN (by omega) (by omega) HS5 HT5).mono ?_
  rintro e w6 ⟨a, rfl, ha, h1, h2, hb6⟩
  have ho := out_one (by omega) (by omega) (found_out (B := 3) (c := 1) (t := 7) (n := 4) (by omega) (by omega) h1 h2) ex_out4
  have hrow : Value.agg (row5 (uTo 3 7 a)) = (.agg #[.int .i64 0, .int .i64 0, .int .i64 1, .int .i64 0, .int .i64 0]) := by rw [ho]; rfl
  rw [hrow]
  have HB6 : Hid (Below w.heap.size w w6) := HB5.out.trans (hb6.mono HB5.out.size)
  clear ho hrow ha h1 h2 hb6 HB5 HS5 HT5
  go_wp2
  go_returns
  exact ⟨rfl, HB6.out⟩
end Go.Proofs.YtkilngogdbjmbaaDoor
