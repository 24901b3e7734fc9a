/-
  What magnitude, next, goesAhead, Pulses and Before of package rank do, and Size, Place, Pulses and Right of the document's own answers: they compute alone, over lists of numbers that lie anywhere in memory. Nothing is turned.
-/
import Derived.Test.YtfgpmdikkncckaaDoorRankMath
import Derived.Test.YtfgpmdikkncckaaDoorCountLaws
import Derived.Test.YtfgpmdikkncckaaDoorIntsAt
import Derived.Test.YtfgpmdikkncckaaDoorLists
import Derived.Deep.DeepCutAuto
namespace Go.Proofs.YtfgpmdikkncckaaDoor
set_option linter.unusedVariables false
open Go.ChangeShapes Go.WideShapes Go.ChangeAt Go.RowKit

/-- A list of numbers lies at this address (where there is one of them at all). -/
def LAt (w : World) (ao : Option Addr) (r : List Int) : Prop :=
  ∀ (i : Nat) (x : Int), r[i]? = some x → ∃ b off, ao = some ⟨b, off, none⟩ ∧ w.cell? ⟨b, off + i, none⟩ = some (.int .i64 x)
/-- Its numbers are numbers of 64 bits. -/
def WfL (r : List Int) : Prop := ∀ (i : Nat) (x : Int), r[i]? = some x → -9223372036854775808 ≤ x ∧ x ≤ 9223372036854775807

section
variable {w w' : World} {ao : Option Addr} {r : List Int}
theorem LAt.below (h : LAt w ao r) (hb : Below w.heap.size w w') : LAt w' ao r := by
  intro i x hx
  obtain ⟨b, off, e, c⟩ := h i x hx
  exact ⟨b, off, e, by rw [hb.cell (block_lt_of_cell c)]; exact c⟩
theorem LAt.grown (h : LAt w ao r) (hg : w.grownBy w' none) : LAt w' ao r := h.below (gN_below hg)
theorem LAt.alloc (h : LAt w ao r) (o : Obj) : LAt (w.alloc o) ao r := h.grown (World.grownBy_alloc w o none)
theorem LAt.drew (h : LAt w ao r) : LAt w.drew ao r := h
theorem cell_gb {b : Nat} {mo mo' : Option Nat} {S : Int → Int → Bool} (hB : BkAt w b mo S) (hG : Gb w w' b mo mo') {a : Addr} {k : IntKind} {x : Int} (hc : w.cell? a = some (.int k x)) : w'.cell? a = some (.int k x) := by
  have hlt := block_lt_of_cell hc
  have hne : a.block ≠ b := by
    intro e
    have h0 := hB.1
    rw [← e] at h0
    unfold World.cell? at hc
    rw [h0] at hc
    simp only at hc
    split at hc
    · cases hc
    · match h1 : a.off with
      | 0 => rw [h1] at hc; simp at hc
      | o + 1 => rw [h1] at hc; simp at hc
  have hm : some a.block ≠ mo := by
    cases hb : w.heap[a.block]? with
    | none => unfold World.cell? at hc; rw [hb] at hc; cases hc
    | some o =>
      cases o with
      | cells c t z => exact hB.apart hb
      | _ => unfold World.cell? at hc; rw [hb] at hc; cases hc
  rw [World.cell?_of_block (hG.block a.block hlt hne hm)]
  exact hc
theorem LAt.gb {b : Nat} {mo mo' : Option Nat} {S : Int → Int → Bool} (h : LAt w ao r) (hB : BkAt w b mo S) (hG : Gb w w' b mo mo') : LAt w' ao r := by
  intro i x hx
  obtain ⟨bl, off, e, c⟩ := h i x hx
  exact ⟨bl, off, e, cell_gb hB hG c⟩
theorem LAt.tail {b off : Nat} {x : Int} (h : LAt w (some ⟨b, off, none⟩) (x :: r)) : LAt w (some ⟨b, off + 1, none⟩) r := by
  intro i y hy
  obtain ⟨b', off', e, c⟩ := h (i + 1) y (by simpa using hy)
  cases e
  exact ⟨b, off + 1, rfl, by rw [show off + 1 + i = off + (i + 1) by omega]; exact c⟩
theorem LAt.new (w : World) (x : Int) (t : TypeId) : LAt (w.alloc (.cells #[.int .i64 x] t)) (some ⟨w.heap.size, 0, none⟩) [x] := by
  intro i y hy
  match i with
  | 0 =>
    simp at hy
    subst hy
    exact ⟨_, _, rfl, cell_of_row _ _ 0 _ _ _ (heap_alloc_new _ _)⟩
  | i + 1 => simp at hy
theorem LAt.of_ints {n : Nat} {f : Nat → Int} (h : IntsAt w ao n .i64 f) : LAt w ao ((List.range n).map f) := by
  intro i x hx
  have hi : i < n := by have := (List.getElem?_eq_some_iff.1 hx).1; simpa using this
  simp [hi] at hx
  subst hx
  exact h i hi
theorem OwnL.lat {B n cap : Nat} (h : OwnL w B (.slice ao n cap) r) : LAt w ao r := by
  intro i x hx
  have hl : 0 < r.length := by have := (List.getElem?_eq_some_iff.1 hx).1; omega
  obtain ⟨g, c, e, _⟩ := h.form hl
  cases e
  exact ⟨g, 0, rfl, by rw [Nat.zero_add]; exact h.cell hx⟩
theorem WfL.tail {x : Int} (h : WfL (x :: r)) : WfL r := fun i y hy => h (i + 1) y (by simpa using hy)
theorem WfL.pul (h : pul r ≤ 1000) : WfL r := fun i x hx => by have := pul_at r i x hx; omega
end

theorem neg_u64 {x : Int} (hx : x < 0) (h0 : -9223372036854775808 ≤ x) : IntKind.u64.wrap (-IntKind.u64.wrap x) = -x := by
  simp only [IntKind.wrap, IntKind.bits, IntKind.signed]
  simp
  omega
theorem mag_any (w : World) (x : Int) (h0 : -9223372036854775808 ≤ x) (h1 : x ≤ 9223372036854775807) : Calls Tryd.prog 97 #[.int .i64 x] w fun e w' => e = .returned (.int .u64 (x.natAbs : Nat)) ∧ w' = w := by
  by_cases hx : x < 0
  · have e : (x.natAbs : Int) = -x := by omega
    rw [e]
    go_enter Tryd.func97, Tryd.ntmps97
    go_wp2
    go_returns
    exact ⟨congrArg (fun z => Ending.returned (.int .u64 z)) (neg_u64 hx h0), rfl⟩
  · have e : (x.natAbs : Int) = x := by omega
    rw [e]
    go_enter Tryd.func97, Tryd.ntmps97
    go_wp2
    go_returns
    exact ⟨by go_num, rfl⟩

theorem next_any (w : World) (p : Nat) (hp : p ≤ 100) : Calls Tryd.prog 96 #[.int .i64 (num p)] w fun e w' => e = .returned (.int .i64 (num (p + 1))) ∧ w' = w := by
  have hb : (num p).natAbs ≤ 50 := by rw [num_abs]; omega
  by_cases h : 0 < num p
  · rw [← num_pos h]
    obtain ⟨x, hx⟩ : ∃ x, num p = x := ⟨_, rfl⟩
    rw [hx] at h hb ⊢
    clear hx
    go_enter Tryd.func96, Tryd.ntmps96
    go_wp2
    go_returns
    exact ⟨rfl, rfl⟩
  · rw [← num_neg h]
    obtain ⟨x, hx⟩ : ∃ x, num p = x := ⟨_, rfl⟩
    rw [hx] at h hb ⊢
    clear hx
    go_enter Tryd.func96, Tryd.ntmps96
    go_wp2
    go_returns
    exact ⟨rfl, rfl⟩

theorem pul1_take : ∀ (r : List Int) (q : Nat) (x : Int), r[q]? = some x → pul1 (r.take (q + 1)) = pul1 (r.take q) + min x.natAbs 1000
  | [], q, x, h => by simp at h
  | y :: r, 0, x, h => by simp at h; subst h; simp [pul1]
  | y :: r, q + 1, x, h => by simp at h; have := pul1_take r q x h; simp only [List.take_succ_cons, pul1] at this ⊢; omega
theorem pul_take : ∀ (r : List Int) (q : Nat) (x : Int), r[q]? = some x → pul (r.take (q + 1)) = pul (r.take q) + x.natAbs
  | [], q, x, h => by simp at h
  | y :: r, 0, x, h => by simp at h; subst h; simp [pul]
  | y :: r, q + 1, x, h => by simp at h; have := pul_take r q x h; simp only [List.take_succ_cons, pul] at this ⊢; omega


set_option maxHeartbeats 1000000 in
theorem pulses_calls (w : World) (ao : Option Addr) (n cap : Nat) (r : List Int) (hn : n ≤ 999) (hc : n ≤ cap) (hc2 : cap ≤ 9223372036854775807) (hr : Hid (r.length = n)) (hw : Hid (WfL r)) (h : Hid (LAt w ao r)) :
    Calls Tryd.prog 91 #[.slice ao n cap] w fun e w' => e = .returned (.int .i64 (pul1 r : Nat)) ∧ w' = w := by
  have hn' : (n : Int) < 1000 := by omega
  clear hn
  go_enter Tryd.func91, Tryd.ntmps91
  go_wp2
  go_loopw [3, 12] (fun s i wr => w = wr ∧ ∃ q : Nat, q ≤ n ∧ i = .int .i64 q ∧ ∃ s0 : Nat, pul1 (r.take q) = s0 ∧ s = .int .i64 s0) (fun _ i _ => n - (intOf i).toNat)
  case atStart => exact ⟨rfl, 0, by omega, rfl, 0, rfl, rfl⟩
  case round =>
    obtain ⟨rfl, q, hq, rfl, s0, hs0, rfl⟩ := hrel
    by_cases hlt : q < n
    · have hlt' : (q : Int) < (n : Int) := by omega
      obtain ⟨x, hx⟩ : ∃ x, r[q]? = some x := ⟨_, List.getElem?_eq_getElem (by rw [hr.out]; exact hlt)⟩
      obtain ⟨bl, off, rfl, c0⟩ := h.out q x hx
      obtain ⟨x0, x1⟩ := hw.out q x hx
      have HT : Hid _ := pul1_take r q x hx
      have hbd : s0 ≤ 1000 * q := by have := pul1_le (r.take q); rw [hs0, List.length_take] at this; omega
      have HS : Hid (pul1 (r.take q) = s0) := hs0
      obtain ⟨a, ha⟩ : ∃ a, x.natAbs = a := ⟨_, rfl⟩
      have HA : Hid (x.natAbs = a) := ha
      have ha1 : a ≤ 9223372036854775808 := by omega
      clear ha hs0 hx
      by_cases ha2 : a < 1000
      · have ha3 : (a : Int) < 1000 := by omega
        go_wp2_with (go_at_call 97; refine (mag_any _ x x0 x1).mono ?_; rw [HA.out]; rintro e w1 ⟨rfl, hw⟩; obtain rfl := hw.symm)
        go_roundw
        case rel => exact ⟨trivial, q + 1, by omega, by go_num, s0 + a, by rw [HT.out, HS.out, HA.out]; omega, by go_num⟩
        case measure => simp [intOf]; omega
      · have ha3 : ¬ (a : Int) < 1000 := by omega
        go_wp2_with (go_at_call 97; refine (mag_any _ x x0 x1).mono ?_; rw [HA.out]; rintro e w1 ⟨rfl, hw⟩; obtain rfl := hw.symm)
        go_roundw
        case rel => exact ⟨trivial, q + 1, by omega, by go_num, s0 + 1000, by rw [HT.out, HS.out, HA.out]; omega, by go_num⟩
        case measure => simp [intOf]; omega
    · obtain rfl : q = n := by omega
      rw [List.take_of_length_le (by rw [hr.out]; exact Nat.le_refl _)] at hs0
      have HS : Hid (pul1 r = s0) := hs0
      clear hs0
      go_wp2
      go_returns
      exact ⟨by rw [HS.out]; rfl, rfl⟩
/-- .. of a right vector: the sum of its magnitudes. -/
theorem pulses_right (w : World) (ao : Option Addr) (n cap : Nat) (r : List Int) (hn : n ≤ 16) (hc : n ≤ cap) (hc2 : cap ≤ 9223372036854775807) (hr : Hid (r.length = n)) (k : Nat) (hp : pul r = k) (hk : k ≤ 1000) (h : Hid (LAt w ao r)) :
    Calls Tryd.prog 91 #[.slice ao n cap] w fun e w' => e = .returned (.int .i64 k) ∧ w' = w := by
  have := pulses_calls w ao n cap r (by omega) hc hc2 hr (WfL.pul (by omega)) h
  rw [pul1_is r (by omega), hp] at this
  exact this
/-- .. of one number. -/
theorem pulses_one (w : World) (x : Int) (t : TypeId) (k : Nat) (hp : x.natAbs = k) (hk : k ≤ 1000) : Calls Tryd.prog 91 #[.slice (some ⟨w.heap.size, 0, none⟩) 1 1] (w.alloc (.cells #[.int .i64 x] t)) fun e w' => e = .returned (.int .i64 k) ∧ w' = w.alloc (.cells #[.int .i64 x] t) :=
  pulses_right _ _ 1 1 [x] (by omega) (by omega) (by omega) rfl k (by simpa [pul] using hp) hk (LAt.new w x t)

theorem bef_drop : ∀ (r s : List Int) (q : Nat), r.length = s.length → r.take q = s.take q → bef r s = bef (r.drop q) (s.drop q)
  | r, s, 0, _, _ => by simp
  | [], s, q + 1, hl, _ => by
    have : s = [] := List.length_eq_zero_iff.1 (by simpa using hl.symm)
    subst this
    simp
  | x :: r, [], q + 1, hl, _ => by simp at hl
  | x :: r, y :: s, q + 1, hl, h => by
    simp only [List.length_cons] at hl
    simp only [List.take_succ_cons, List.cons.injEq] at h
    obtain ⟨rfl, h⟩ := h
    simp only [bef, if_true, List.drop_succ_cons]
    exact bef_drop r s q (by omega) h
theorem drop_at {r : List Int} {q : Nat} {x : Int} (h : r[q]? = some x) : r.drop q = x :: r.drop (q + 1) := by
  obtain ⟨hl, e⟩ := List.getElem?_eq_some_iff.1 h
  rw [List.drop_eq_getElem_cons hl, e]
theorem take_at {r : List Int} {q : Nat} {x : Int} (h : r[q]? = some x) : r.take (q + 1) = r.take q ++ [x] := by
  rw [List.take_add_one, h]; rfl
end Go.Proofs.YtfgpmdikkncckaaDoor
