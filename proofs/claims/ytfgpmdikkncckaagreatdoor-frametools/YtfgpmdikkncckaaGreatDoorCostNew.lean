/-
  What New of package cost, and Cap and Bits of its sheet do: a sheet is made by a table, in memory that is new; it tells how many pulses there may be, and what they cost. Nothing else is turned.
-/
import Derived.Test.YtfgpmdikkncckaaGreatDoorCostFill
namespace Go.Proofs.YtfgpmdikkncckaaGreatDoor
set_option linter.unusedVariables false
open Go.ChangeShapes Go.WideShapes Go.ChangeAt Go.RowKit

/-- A sheet of noughts. -/
def zI64 : Value → Bool
  | .int .i64 0 => true
  | _ => false
def zS : Value → Bool
  | .agg cs => decide (cs.size = 578) && cs.all zI64
  | _ => false
theorem zI64_is {v : Value} (h : zI64 v = true) : v = .int .i64 0 := by
  unfold zI64 at h
  split at h
  · rfl
  · cases h
theorem sheet_info : ((Tryz.prog.info? 132).bind (fun i => i.zero)).map zS = some true := by kernel_rfl
theorem sheet_zero : ∃ Z : Array Value, (∀ w, Sem.run Tryz.prog (zeroValue 132) w = .ok (.agg Z) w) ∧ Z.size = 578 ∧ ∀ j, j < 578 → Z[j]? = some (.int .i64 0) := by
  have h := sheet_info
  cases hi : Tryz.prog.info? 132 with
  | none => rw [hi] at h; cases h
  | some i =>
    rw [hi] at h
    cases hz : i.zero with
    | none => simp [hz] at h
    | some v =>
      simp only [Option.bind_some, hz, Option.map_some, Option.some.injEq] at h
      unfold zS at h
      split at h
      · rename_i cs
        rw [Bool.and_eq_true] at h
        have hs := of_decide_eq_true h.1
        refine ⟨cs, fun w => by simp [zeroValue, typeInfo, hi, hz], hs, fun j hj => ?_⟩
        rw [Array.getElem?_eq_getElem (by omega), zI64_is (Array.all_eq_true.1 h.2 j (by omega))]
      · cases h
theorem chk_zero : all2 1 578 (fun _ j => Nat.beq (sf 0 0 0 j) 0) = true := by kernel_rfl
theorem sf_zero {j : Nat} (hj : j < 578) : sf 0 0 0 j = 0 := Nat.eq_of_beq_eq_true (all2_at chk_zero (n := 0) (by omega) hj)

/-- A sheet lies at block b. -/
structure ShAt (w : World) (b : Nat) : Prop where
  most : ∀ n, n ≤ 16 → w.cell? ⟨b, n, none⟩ = some (.int .i64 (cap n : Nat))
  row : ∀ n k, n ≤ 16 → k ≤ 32 → w.cell? ⟨b, 17 + n * 33 + k, none⟩ = some (.int .i64 (bt n k : Nat))
section
variable {w w' : World} {b : Nat}
theorem ShAt.lt (h : ShAt w b) : b < w.heap.size := block_lt_of_cell (h.most 0 (by omega))
theorem ShAt.same (h : ShAt w b) (hb : w'.heap[b]? = w.heap[b]?) : ShAt w' b :=
  ⟨fun n hn => by rw [World.cell?_of_block (a := ⟨b, n, none⟩) hb]; exact h.most n hn, fun n k hn hk => by rw [World.cell?_of_block (a := ⟨b, 17 + n * 33 + k, none⟩) hb]; exact h.row n k hn hk⟩
theorem ShAt.below (h : ShAt w b) (hb : Below w.heap.size w w') : ShAt w' b := h.same (hb.block b h.lt)
theorem ShAt.kept {row : Option Nat} (h : ShAt w b) (hg : w.grownBy w' row) (hne : some b ≠ row) : ShAt w' b := h.same (hg.block b h.lt hne)
theorem ShAt.drewN (h : ShAt w b) (d : Nat) : ShAt (w.drewN d) b := h.same rfl
theorem ShAt.bk {b' : Nat} {mo mo' : Option Nat} (h : ShAt w b) (hB : Bk w b' mo) (hG : Gb w w' b' mo mo') : ShAt w' b := by
  obtain ⟨S, _, hB⟩ := hB
  exact ⟨fun n hn => cell_gb hB hG (h.most n hn), fun n k hn hk => cell_gb hB hG (h.row n k hn hk)⟩
end

set_option maxHeartbeats 2000000 in
theorem snew_any (w : World) (tb : Nat) (hT : Hid (TabAt w tb)) : Calls Tryz.prog 39 #[.pointer (some ⟨tb, 0, none⟩)] w fun e w' => ∃ b, e = .returned (.pointer (some ⟨b, 0, none⟩)) ∧ w.heap.size ≤ b ∧ ShAt w' b ∧ Below w.heap.size w w' := by
  obtain ⟨Z, u1, hz, hz0⟩ := sheet_zero
  have HZ : Hid (∀ j, j < 578 → Z[j]? = some (.int .i64 0)) := hz0
  have HZS : Hid (Z.size = 578) := hz
  clear hz0 hz
  go_enter Tryz.func39, Tryz.ntmps39
  go_wp2
  have HB0 : Hid (Below w.heap.size w (w.alloc (.cells Z 132))) := (Below.refl _ _).alloc (Nat.le_refl _) _
  have HT0 : Hid (TabAt (w.alloc (.cells Z 132)) tb) := hT.out.alloc _
  have HS0 : Hid (SB (w.alloc (.cells Z 132)) w.heap.size 0 0 0) := by
    refine ⟨⟨_, heap_alloc_new w _, HZS.out⟩, fun j hj => ?_⟩
    rw [cell_of_row _ _ _ _ _ _ (heap_alloc_new w _), HZ.out j hj, sf_zero hj]
    rfl
  have htb : tb < w.heap.size := hT.out.lt
  generalize (w.alloc (.cells Z 132)) = w0 at *
  obtain ⟨b, hb⟩ : ∃ b, w.heap.size = b := ⟨_, rfl⟩
  have HBE : Hid (w.heap.size = b) := hb
  have HNE : Hid (tb ≠ b) := by show tb ≠ b; omega
  rw [hb] at HB0 HS0 ⊢
  clear hb htb
  go_loopw [7] (fun i wr => ∃ m : Nat, m ≤ 17 ∧ i = .int .i64 m ∧ Hid (SB wr b m m 0) ∧ Hid (TabAt wr tb) ∧ Hid (Below b w wr)) (fun i _ => 17 - (intOf i).toNat)
  case atStart => exact ⟨0, by omega, rfl, HS0, HT0, HB0⟩
  case round =>
    clear HS0 HT0 HB0
    obtain ⟨m, hm, rfl, HS, HT, HB⟩ := hrel
    by_cases hlt : m < 17
    · have hlt' : (m : Int) < 17 := by omega
      by_cases h8 : 8 < m
      · have h8' : (8 : Int) < (m : Int) := by omega
        go_wp2_with (first | (go_at_call 70; refine (iss_yes _ m h8').mono ?_; rintro e w2 ⟨rfl, hw⟩; obtain rfl := hw.symm; clear hw) | (go_at_call 71; refine (join_any _ b m (by omega) (by omega) HS).mono ?_; rintro e w2 ⟨rfl, hS2, hG2⟩; have HS2 : Hid (SB w2 b (m + 1) (m + 1) 0) := hS2; have HT2 : Hid (TabAt w2 tb) := HT.out.kept hG2 (by intro e; cases e; exact HNE.out rfl); have HB2 : Hid (Below b w w2) := HB.out.grown hG2 (by have := HB.out.size; have := HBE.out; omega) (fun q e => by cases e; exact Nat.le_refl _); clear hS2 hG2))
        go_roundw
        case rel => exact ⟨m + 1, by omega, by go_num, HS2, HT2, HB2⟩
        case measure => simp [intOf]; omega
      · by_cases h0 : m = 0
        · subst h0
          have HS2 : Hid (SB wr b 1 1 0) := ⟨HS.out.blk, fun j hj => by rw [HS.out.at_ j hj, sf_zero hj, sf_none hj]⟩
          go_wp2_with (first | (go_at_call 70; refine (iss_no _ 0 (by omega)).mono ?_; rintro e w2 ⟨rfl, hw⟩; obtain rfl := hw.symm; clear hw) | (go_at_call 72; refine (hasn_no _ 0 (by omega)).mono ?_; rintro e w2 ⟨rfl, hw⟩; obtain rfl := hw.symm; clear hw))
          go_roundw
          case rel => exact ⟨1, by omega, by go_num, HS2, HT, HB⟩
          case measure => simp [intOf]
        · go_wp2_with (first | (go_at_call 70; refine (iss_no _ m (by omega)).mono ?_; rintro e w2 ⟨rfl, hw⟩; obtain rfl := hw.symm; clear hw) | (go_at_call 72; refine (hasn_yes _ m (by omega) (by omega)).mono ?_; rintro e w2 ⟨rfl, hw⟩; obtain rfl := hw.symm; clear hw) | (go_at_call 73; refine (fill_any _ b tb m (by omega) (by omega) HS HT HNE).mono ?_; rintro e w2 ⟨rfl, hS2, hG2⟩; have HS2 : Hid (SB w2 b (m + 1) (m + 1) 0) := hS2; have HT2 : Hid (TabAt w2 tb) := HT.out.kept hG2 (by intro e; cases e; exact HNE.out rfl); have HB2 : Hid (Below b w w2) := HB.out.grown hG2 (by have := HB.out.size; have := HBE.out; omega) (fun q e => by cases e; exact Nat.le_refl _); clear hS2 hG2))
          go_roundw
          case rel => exact ⟨m + 1, by omega, by go_num, HS2, HT2, HB2⟩
          case measure => simp [intOf]; omega
    · obtain rfl : m = 17 := by omega
      go_wp2
      go_returns
      exact ⟨b, rfl, by have := HBE.out; omega, ⟨fun n hn => by rw [HS.out.at_ n (by omega), sf_cap (by omega) (by omega)], fun n k hn hk => by rw [HS.out.at_ _ (by omega), sf_bt hk (by omega)]⟩, HB.out.mono (by have := HBE.out; omega)⟩

/-- Cap of a sheet. -/
theorem scap_out (w : World) (b : Nat) (n : Int) (h : ¬ (1 ≤ n ∧ n ≤ 16)) : Calls Tryz.prog 173 #[.pointer (some ⟨b, 0, none⟩), .int .i64 n] w fun e w' => e = .returned (.int .i64 (-1)) ∧ w' = w := by
  go_enter Tryz.func173, Tryz.ntmps173
  go_wp2_with (go_at_call 72; refine (hasn_no _ n h).mono ?_; rintro e w1 ⟨rfl, hw⟩; obtain rfl := hw.symm; clear hw)
  go_returns
  exact ⟨rfl, rfl⟩
theorem scap_in (w : World) (b : Nat) (n : Nat) (h1 : 1 ≤ n) (h2 : n ≤ 16) (hS : Hid (ShAt w b)) : Calls Tryz.prog 173 #[.pointer (some ⟨b, 0, none⟩), .int .i64 n] w fun e w' => e = .returned (.int .i64 (cap n : Nat)) ∧ w' = w := by
  have c0 := hS.out.most n h2
  have i1 : (n : Int) < 17 := by omega
  have i2 : (0 : Int) ≤ (n : Int) := by omega
  go_enter Tryz.func173, Tryz.ntmps173
  go_wp2_with (go_at_call 72; refine (hasn_yes _ n (by omega) (by omega)).mono ?_; rintro e w1 ⟨rfl, hw⟩; obtain rfl := hw.symm; clear hw)
  go_returns
  exact ⟨rfl, rfl⟩
theorem scap_any (w : World) (b : Nat) (n : Int) (hS : Hid (ShAt w b)) : Calls Tryz.prog 173 #[.pointer (some ⟨b, 0, none⟩), .int .i64 n] w fun e w' => e = .returned (.int .i64 (capI n)) ∧ w' = w := by
  by_cases h : 1 ≤ n ∧ n ≤ 16
  · obtain ⟨m, rfl⟩ : ∃ m : Nat, n = m := ⟨n.toNat, by omega⟩
    rw [capI_nat (by omega) (by omega)]
    exact scap_in w b m (by omega) (by omega) hS
  · rw [capI_out h]
    exact scap_out w b n h

/-- Bits of a sheet. -/
theorem sbits_low (w : World) (b : Nat) (n k : Int) (h : k < 0) : Calls Tryz.prog 175 #[.pointer (some ⟨b, 0, none⟩), .int .i64 n, .int .i64 k] w fun e w' => e = .returned (.int .i64 (-1)) ∧ w' = w := by
  go_enter Tryz.func175, Tryz.ntmps175
  go_wp2
  go_returns
  exact ⟨rfl, rfl⟩
theorem sbits_over (w : World) (b : Nat) (n k c : Int) (hS : Hid (ShAt w b)) (hc : capI n = c) (h0 : 0 ≤ k) (h : c < k) : Calls Tryz.prog 175 #[.pointer (some ⟨b, 0, none⟩), .int .i64 n, .int .i64 k] w fun e w' => e = .returned (.int .i64 (-1)) ∧ w' = w := by
  have HC : Hid (capI n = c) := hc
  clear hc
  go_enter Tryz.func175, Tryz.ntmps175
  go_wp2_with (go_at_call 173; refine (scap_any _ b n hS).mono ?_; rw [HC.out]; rintro e w1 ⟨rfl, hw⟩; obtain rfl := hw.symm; clear hw)
  go_returns
  exact ⟨rfl, rfl⟩
theorem sbits_in (w : World) (b : Nat) (n k : Nat) (h1 : 1 ≤ n) (h2 : n ≤ 16) (hk : k ≤ cap n) (hS : Hid (ShAt w b)) : Calls Tryz.prog 175 #[.pointer (some ⟨b, 0, none⟩), .int .i64 n, .int .i64 k] w fun e w' => e = .returned (.int .i64 (bt n k : Nat)) ∧ w' = w := by
  have hb := (cap_bd (n := n) h2).1
  have c0 := hS.out.row n k h2 (by omega)
  have hc := scap_in w b n h1 h2 hS
  have HC : Hid (Calls Tryz.prog 173 #[.pointer (some ⟨b, 0, none⟩), .int .i64 n] w fun e w' => e = .returned (.int .i64 (cap n : Nat)) ∧ w' = w) := hc
  clear hc
  generalize cap n = C at *
  generalize bt n k = x at *
  have hk' : ¬ (C : Int) < (k : Int) := by omega
  have i1 : (n : Int) < 17 := by omega
  have i2 : (0 : Int) ≤ (n : Int) := by omega
  have i3 : (k : Int) < 33 := by omega
  have i4 : (0 : Int) ≤ (k : Int) := by omega
  go_enter Tryz.func175, Tryz.ntmps175
  go_wp2_with (go_at_call 173; refine HC.out.mono ?_; rintro e w1 ⟨rfl, hw⟩; obtain rfl := hw.symm; clear hw)
  go_returns
  exact ⟨rfl, rfl⟩
theorem sbits_any (w : World) (b : Nat) (n k : Int) (hS : Hid (ShAt w b)) : Calls Tryz.prog 175 #[.pointer (some ⟨b, 0, none⟩), .int .i64 n, .int .i64 k] w fun e w' => e = .returned (.int .i64 (btI n k)) ∧ w' = w := by
  by_cases k0 : k < 0
  · rw [btI_low n k0]
    exact sbits_low w b n k k0
  · by_cases h : 1 ≤ n ∧ n ≤ 16
    · obtain ⟨m, rfl⟩ : ∃ m : Nat, n = m := ⟨n.toNat, by omega⟩
      obtain ⟨j, rfl⟩ : ∃ j : Nat, k = j := ⟨k.toNat, by omega⟩
      by_cases kc : j ≤ cap m
      · rw [btI_nat (by omega) (by omega) kc]
        exact sbits_in w b m j (by omega) (by omega) kc hS
      · rw [btI_over (n := m) (by omega)]
        exact sbits_over w b m j _ hS (capI_nat (by omega) (by omega)) (by omega) (by omega)
    · rw [btI_no k h]
      exact sbits_over w b n k _ hS (capI_out h) (by omega) (by omega)
end Go.Proofs.YtfgpmdikkncckaaGreatDoor
