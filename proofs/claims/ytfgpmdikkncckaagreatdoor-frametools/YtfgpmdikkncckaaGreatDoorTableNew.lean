/-
  What New of package table does: a table of all rows is made, in memory that is new. Nothing else is turned.
-/
import Derived.Test.YtfgpmdikkncckaaGreatDoorTableRow
namespace Go.Proofs.YtfgpmdikkncckaaGreatDoor
set_option linter.unusedVariables false
open Go.ChangeShapes Go.WideShapes Go.ChangeAt Go.RowKit

/-- A table of noughts. -/
def zI : Value → Bool
  | .int .u64 0 => true
  | _ => false
def zB : Value → Bool
  | .agg cs => decide (cs.size = 561) && cs.all zI
  | _ => false
theorem zI_is {v : Value} (h : zI v = true) : v = .int .u64 0 := by
  unfold zI at h
  split at h
  · rfl
  · cases h
theorem tab_info : ((Tryz.prog.info? 123).bind (fun i => i.zero)).map zB = some true := by kernel_rfl
theorem tab_zero : ∃ Z : Array Value, (∀ w, Sem.run Tryz.prog (zeroValue 123) w = .ok (.agg Z) w) ∧ Z.size = 561 ∧ ∀ j, j < 561 → Z[j]? = some (.int .u64 0) := by
  have h := tab_info
  cases hi : Tryz.prog.info? 123 with
  | none => rw [hi] at h; cases h
  | some i =>
    rw [hi] at h
    cases hz : i.zero with
    | none => simp [hz] at h
    | some v =>
      simp only [Option.bind_some, hz, Option.map_some, Option.some.injEq] at h
      unfold zB at h
      split at h
      · rename_i cs
        rw [Bool.and_eq_true] at h
        have hs := of_decide_eq_true h.1
        refine ⟨cs, fun w => by simp [zeroValue, typeInfo, hi, hz], hs, fun j hj => ?_⟩
        rw [Array.getElem?_eq_getElem (by omega), zI_is (Array.all_eq_true.1 h.2 j (by omega))]
      · cases h
/-- A table whose rows up to m are there. -/
structure TB (w : World) (b m : Nat) : Prop where
  blk : ∃ L : Array Value, w.heap[b]? = some (.cells L 123 (0, 0)) ∧ L.size = 561
  rows : ∀ n, n ≤ m → RowAt w b (n * 33) n
theorem TB.there {w : World} {b m : Nat} (h : TB w b m) (o n : Nat) (hn : o + n ≤ 561) : w.there b o n := by
  obtain ⟨L, hb, hl⟩ := h.blk
  intro j hj
  refine ⟨?_, frozen_of_row w b _ L _ hb⟩
  rw [cell_of_row w b _ L _ _ hb, Array.getElem?_eq_getElem (by omega)]
  rfl
theorem TB.same {w w' : World} {b m : Nat} (h : TB w b m) (hb : w'.heap[b]? = w.heap[b]?) : TB w' b m := by
  obtain ⟨L, hc, hl⟩ := h.blk
  refine ⟨⟨L, hb.trans hc, hl⟩, fun n hn k hk => ?_⟩
  rw [World.cell?_of_block (a := ⟨b, n * 33 + k, none⟩) hb]
  exact h.rows n hn k hk
theorem TB.lt {w : World} {b m : Nat} (h : TB w b m) : b < w.heap.size := block_lt_of_cell (h.rows 0 (by omega) 0 (by omega))

theorem TB.setCells {w : World} {b m : Nat} (h : TB w b m) (hm : m < 16) : TB (w.setCells b ((m + 1) * 33) (vrow (m + 1))) b (m + 1) := by
  have ht := h.there ((m + 1) * 33) 33 (by omega)
  refine ⟨?_, fun n hn k hk => ?_⟩
  · obtain ⟨L, hb, hl⟩ := h.blk
    have : ∀ (vs : List Value) (o : Nat) (w : World) (L : Array Value), w.heap[b]? = some (.cells L 123 (0, 0)) → ∃ L2, (w.setCells b o vs).heap[b]? = some (.cells L2 123 (0, 0)) ∧ L2.size = L.size := by
      intro vs
      induction vs with
      | nil => intro o w L hb; exact ⟨L, hb, rfl⟩
      | cons v r ih =>
        intro o w L hb
        rw [World.setCells]
        obtain ⟨L2, h2, h3⟩ := ih (o + 1) _ _ (heap_setCell_same w b o L _ v hb)
        exact ⟨L2, h2, by rw [h3]; simp⟩
    obtain ⟨L2, h2, h3⟩ := this (vrow (m + 1)) ((m + 1) * 33) w L hb
    exact ⟨L2, h2, h3.trans hl⟩
  · by_cases e : n = m + 1
    · subst e
      rw [World.cell?_setCells_in b (vrow (m + 1)) ((m + 1) * 33) w (fun i hi => (ht i (by rw [vrow_len] at hi; omega)).1) k (by rw [vrow_len]; omega)]
      have := vrow_at (m + 1) k hk
      rw [List.getElem?_eq_getElem (by rw [vrow_len]; omega)] at this
      exact this
    · rw [World.cell?_setCells_out b (vrow (m + 1)) ((m + 1) * 33) w ⟨b, n * 33 + k, none⟩ (fun _ _ => by left; show n * 33 + k < (m + 1) * 33; omega)]
      exact h.rows n (by omega) k hk
theorem below_setCells {B b : Nat} {a : World} (hg : B ≤ b) : ∀ (vs : List Value) (o : Nat) (w : World), Below B a w → Below B a (w.setCells b o vs)
  | [], _, _, h => h
  | v :: r, o, w, h => by rw [World.setCells]; exact below_setCells hg r (o + 1) _ (h.setCell (p := ⟨b, o, none⟩) hg v)
theorem storeM (w : World) (b o : Nat) (cs : List Value) (hl : cs.length = 33) (h1 : ∀ v ∈ cs, v.oneCell' = true) (ht : w.there b o 33) :
    Sem.run Tryz.prog (storeCells ⟨b, o, none⟩ cs) w = .ok () (w.setCells b o cs) := by
  have := run_storeCells_cells (P := Tryz.prog) b o cs 0 w (fun j hj => by simpa using (ht j (by omega)).1) (fun j hj => by simpa using (ht j (by omega)).2) h1
  simpa using this

set_option maxHeartbeats 2000000 in
theorem tnew_any (w : World) : Calls Tryz.prog 37 #[] w fun e w' => ∃ b, e = .returned (.pointer (some ⟨b, 0, none⟩)) ∧ w.heap.size ≤ b ∧ TabAt w' b ∧ Below w.heap.size w w' := by
  obtain ⟨Z, u1, hz, hz0⟩ := tab_zero
  have c0 : (w.alloc (.cells Z 123)).cell? ⟨w.heap.size, 0, none⟩ = some (.int .u64 0) := by
    rw [cell_of_row _ _ 0 _ _ _ (heap_alloc_new w _)]; exact hz0 0 (by omega)
  have HZ : Hid (∀ j, j < 561 → Z[j]? = some (.int .u64 0)) := hz0
  clear hz0
  go_enter Tryz.func37, Tryz.ntmps37
  go_wp2
  have HB0 : Hid (Below w.heap.size w (w.alloc (.cells (Z.setIfInBounds 0 (.int .u64 1)) 123))) := (Below.refl _ _).alloc (Nat.le_refl _) _
  have HT0 : Hid (TB (w.alloc (.cells (Z.setIfInBounds 0 (.int .u64 1)) 123)) w.heap.size 0) := by
    refine ⟨⟨_, heap_alloc_new w _, by simp [hz]⟩, fun n hn k hk => ?_⟩
    obtain rfl : n = 0 := by omega
    rw [cell_of_row _ _ _ _ _ _ (heap_alloc_new w _), Array.getElem?_setIfInBounds]
    by_cases e : 0 = 0 * 33 + k
    · obtain rfl : k = 0 := by omega
      rw [if_pos rfl, if_pos (by omega), vv_one (by omega)]; rfl
    · rw [if_neg e, HZ.out _ (by omega)]
      obtain ⟨q, rfl⟩ : ∃ q, k = q + 1 := ⟨k - 1, by omega⟩
      rw [vv_none (by omega)]; rfl
  have HSZ : Hid (w.heap.size = w.heap.size) := rfl
  generalize (w.alloc (.cells (Z.setIfInBounds 0 (.int .u64 1)) 123)) = w0 at *
  obtain ⟨b, hb⟩ : ∃ b, w.heap.size = b := ⟨_, rfl⟩
  have HBE : Hid (w.heap.size = b) := hb
  rw [hb] at HB0 HT0 ⊢
  clear hb HSZ c0
  go_loopw [10] (fun i wr => ∃ m : Nat, m ≤ 16 ∧ i = .int .i64 m ∧ Hid (TB wr b m) ∧ Hid (Below b w wr)) (fun i _ => 16 - (intOf i).toNat)
  case atStart => exact ⟨0, by omega, rfl, HT0, HB0⟩
  case round =>
    obtain ⟨m, hm, rfl, HT, HB⟩ := hrel
    by_cases hlt : m < 16
    · have hlt' : (m : Int) < 16 := by omega
      have HR : Hid (RowAt wr b (m * 33) m) := HT.out.rows m (Nat.le_refl _)
      go_wp2
      go_region_with (go_at_call 69; refine (following_any wr.drew b m hlt HR).mono ?_; rintro e w2 ⟨rfl, HB2⟩; have HT2 : Hid (TB w2 b m) := HT.out.same (HB2.block b HT.out.lt); have hst := storeM w2 b ((m + 1) * 33) (vrow (m + 1)) (vrow_len _) (vrow_one _) (HT2.out.there _ _ (by omega)); replace HB2 : Hid (Below wr.heap.size wr w2) := ⟨HB2.os, HB2.tape, HB2.output, HB2.size, HB2.block⟩)
      have HB3 : Hid (Below b w (w2.setCells b ((m + 1) * 33) (vrow (m + 1)))) := below_setCells (Nat.le_refl _) _ _ _ (HB.out.trans (HB2.out.mono (by have := HB.out.size; have := HBE.out; omega)))
      have HT3 : Hid (TB (w2.setCells b ((m + 1) * 33) (vrow (m + 1))) b (m + 1)) := HT2.out.setCells hlt
      clear hst
      generalize w2.setCells b ((m + 1) * 33) (vrow (m + 1)) = w3 at *
      go_wp2
      go_roundw
      case rel => exact ⟨m + 1, by omega, by go_num, HT3, HB3⟩
      case measure => simp [intOf]; omega
    · obtain rfl : m = 16 := by omega
      go_wp2
      go_returns
      exact ⟨b, rfl, by have := HBE.out; omega, fun n hn => HT.out.rows n hn, HB.out.mono (by have := HBE.out; omega)⟩
end Go.Proofs.YtfgpmdikkncckaaGreatDoor
