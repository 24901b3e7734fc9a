/-
  What the document's own answers for layer 13 are, of numbers that are split: Row, Cap and Bits of package spinetref13. They make lists of their own; nothing that was there is turned.
-/
import Derived.Test.YtfgpmdikkncckaaGreatDoorCostRef
namespace Go.Proofs.YtfgpmdikkncckaaGreatDoor
set_option linter.unusedVariables false
open Go.ChangeShapes Go.WideShapes Go.ChangeAt Go.RowKit

theorem rrow_half (w : World) (n : Nat) (x : Int) (h1 : 1 ≤ n) (h2 : n ≤ 8) (hx : x = n) (C : Nat) (hC : cap n = C) (R : List Int) (hR : rl n = R) : Calls Tryz.prog 78 #[.int .i64 x] w fun e w' => ∃ g c : Nat, e = .returned (.slice (some ⟨g, 0, none⟩) (C + 1 : Nat) c) ∧ OwnL w' w.heap.size (.slice (some ⟨g, 0, none⟩) (C + 1 : Nat) c) R ∧ Below w.heap.size w w' := by
  subst hx hC hR
  exact rrow_low w n h1 h2

set_option maxHeartbeats 2000000 in
theorem rrow_big (w : World) (n : Nat) (h1 : 9 ≤ n) (h2 : n ≤ 16) : Calls Tryz.prog 78 #[.int .i64 n] w fun e w' => ∃ g c : Nat, e = .returned (.slice (some ⟨g, 0, none⟩) (cap n + 1 : Nat) c) ∧ OwnL w' w.heap.size (.slice (some ⟨g, 0, none⟩) (cap n + 1 : Nat) c) (rl n) ∧ Below w.heap.size w w' := by
  obtain ⟨hc0, hb0, _⟩ := cap_bd (n := n) (by omega)
  have HALL : Hid _ := rl_all (n := n) (by omega) h2
  have HZ : Hid _ := rl_take (n := n) (k := 0) (by omega) (by omega) (by omega)
  rw [hb0] at HZ
  have hh := half_is h1 h2
  have HD : Hid (∀ k, 1 ≤ k → k ≤ cap n → lenN k + 1 + dear (bt (n / 2)) (bt (n - n / 2)) k (k + 1) = bt n k) := fun k a b => dear_is h1 h2 a b
  have HT : Hid (∀ k, k ≤ cap n → (rl n).take k ++ [((bt n k : Nat) : Int)] = (rl n).take (k + 1) ∧ ((rl n).take k).length = k) := fun k a => ⟨rl_take (by omega) h2 a, by rw [List.length_take, rl_len (by omega) h2]; omega⟩
  have e1 : (n : Int).tdiv 2 = ((n / 2 : Nat) : Int) := by rw [Int.tdiv_eq_ediv_of_nonneg (by omega)]; rfl
  have e2 : (n : Int) - ((n / 2 : Nat) : Int) = ((n - n / 2 : Nat) : Int) := by omega
  obtain ⟨hca, _, _⟩ := cap_bd (n := n / 2) (by omega)
  obtain ⟨hcb, _, _⟩ := cap_bd (n := n - n / 2) (by omega)
  have HA : Hid (∀ k, k ≤ cap (n / 2) → (rl (n / 2))[k]? = some ((bt (n / 2) k : Nat) : Int) ∧ bt (n / 2) k ≤ 41) := fun k a => ⟨rl_at (by omega) (by omega) a, bt_bd (by omega) (by omega)⟩
  have HB : Hid (∀ k, k ≤ cap (n - n / 2) → (rl (n - n / 2))[k]? = some ((bt (n - n / 2) k : Nat) : Int) ∧ bt (n - n / 2) k ≤ 41) := fun k a => ⟨rl_at (by omega) (by omega) a, bt_bd (by omega) (by omega)⟩
  have HRA : Hid (∀ w x, x = ((n / 2 : Nat) : Int) → Calls Tryz.prog 78 #[.int .i64 x] w fun e w' => ∃ g c : Nat, e = .returned (.slice (some ⟨g, 0, none⟩) (cap (n / 2) + 1 : Nat) c) ∧ OwnL w' w.heap.size (.slice (some ⟨g, 0, none⟩) (cap (n / 2) + 1 : Nat) c) (rl (n / 2)) ∧ Below w.heap.size w w') := fun w x hx => rrow_half w (n / 2) x (by omega) (by omega) hx _ rfl _ rfl
  have HRB : Hid (∀ w x, x = ((n - n / 2 : Nat) : Int) → Calls Tryz.prog 78 #[.int .i64 x] w fun e w' => ∃ g c : Nat, e = .returned (.slice (some ⟨g, 0, none⟩) (cap (n - n / 2) + 1 : Nat) c) ∧ OwnL w' w.heap.size (.slice (some ⟨g, 0, none⟩) (cap (n - n / 2) + 1 : Nat) c) (rl (n - n / 2)) ∧ Below w.heap.size w w') := fun w x hx => rrow_half w (n - n / 2) x (by omega) (by omega) hx _ rfl _ rfl
  have hbn : n / 2 ≤ 8 ∧ 4 ≤ n / 2 := by omega
  obtain ⟨C, hC⟩ : ∃ C, cap n = C := ⟨_, rfl⟩
  have HC : Hid (cap n = C) := hC
  have HBT : Hid (∀ k, k ≤ C → bt n k ≤ 41) := fun k a => bt_bd h2 (by omega)
  rw [hC] at hc0 HALL hh HD HT ⊢
  have hCA : C ≤ cap (n / 2) := by omega
  have hCB : C ≤ cap (n - n / 2) := by omega
  have hCM : cap (n / 2) ≤ C ∨ cap (n - n / 2) ≤ C := by omega
  clear hC hb0 hh
  generalize n / 2 = n1 at *
  generalize n - n1 = n2 at *
  generalize cap n1 = A at *
  generalize cap n2 = B at *
  generalize bt n1 = f at *
  generalize bt n2 = g at *
  generalize bt n = t at *
  generalize rl n1 = R1 at *
  generalize rl n2 = R2 at *
  generalize rl n = R at *
  have a1 : ¬ (n : Int) < 1 := by omega
  have a2 : ¬ (16 : Int) < (n : Int) := by omega
  have a3 : ¬ (n : Int) ≤ 8 := by omega
  have E2 : Hid _ := e2
  clear e2
  go_enter Tryz.func78, Tryz.ntmps78
  go_wp2_with (at_builtin; refine wpList_pushL rfl _ _ rfl w.heap.size (.slice none 0 0) [] rfl (OwnL.nil _ _) w.heap.size 0 rfl (heap_alloc_new _ _) (by decide) (by simp) ?_; intro g0 c0 w1 k1 k2 k3 k4)
  have HO1 : Hid (OwnL w1 w.heap.size (.slice (some ⟨g0, 0, none⟩) 1 c0) (R.take 1)) := by
    have := HZ.out
    rw [List.take_zero, Nat.zero_add] at this
    show OwnL w1 w.heap.size _ _
    rw [← this]
    exact k1
  have HB1 : Hid (Below w.heap.size w w1) := gN_below (row_grown (World.grownBy_alloc w _ none) k2 (fun q e => by cases e))
  clear k1 k2 k3 k4
  refine (HRA.out _ _ rfl).mono ?_
  rintro e w2 ⟨ga, ca, rfl, hO2, hB2⟩
  have HO2 : Hid (OwnL w2 w1.heap.size (.slice (some ⟨ga, 0, none⟩) (A + 1 : Nat) ca) R1) := hO2
  have HB2 : Hid (Below w1.heap.size w1 w2) := hB2
  clear hO2 hB2
  go_wp2_with fail
  refine (HRB.out _ _ E2.out).mono ?_
  rintro e w3 ⟨gb, cb, rfl, hO3, hB3⟩
  have HO3 : Hid (OwnL w3 w1.heap.size (.slice (some ⟨gb, 0, none⟩) (B + 1 : Nat) cb) R2) := hO3.mono HB2.out.size
  have HO4 : Hid (OwnL w3 w1.heap.size (.slice (some ⟨ga, 0, none⟩) (A + 1 : Nat) ca) R1) := HO2.out.same (fun i a b => hB3.block i b)
  have HB3 : Hid (Below w1.heap.size w1 w3) := HB2.out.trans (hB3.mono HB2.out.size)
  have HBW : Hid (Below w.heap.size w w3) := HB1.out.trans (HB3.out.mono HB1.out.size)
  have HO5 : Hid (OwnL w3 w.heap.size (.slice (some ⟨g0, 0, none⟩) 1 c0) (R.take 1)) := HO1.out.same (fun i a b => HB3.out.block i b)
  have hq0 : g0 < w1.heap.size := (HO1.out.lt rfl).2
  have hs1 : w.heap.size ≤ w1.heap.size := HB1.out.size
  have hs3 : w1.heap.size ≤ w3.heap.size := HB3.out.size
  clear hO3 hB3 HO2 HB2 HO1 HB3 HB1 HRA HRB
  go_wp2_with fail
  go_loopw [3, 8] (fun v i wr => ∃ k c g' : Nat, 1 ≤ k ∧ k ≤ C + 1 ∧ i = .int .i64 k ∧ v = .slice (some ⟨g', 0, none⟩) k c ∧ (g' < w1.heap.size ∨ w3.heap.size ≤ g') ∧ Hid (OwnL wr w.heap.size (.slice (some ⟨g', 0, none⟩) k c) (R.take k)) ∧ Hid (Below w.heap.size w wr) ∧ Hid (∀ i, w1.heap.size ≤ i → i < w3.heap.size → wr.heap[i]? = w3.heap[i]?) ∧ w3.heap.size ≤ wr.heap.size) (fun _ i _ => 34 - (intOf i).toNat)
  case atStart => exact ⟨1, c0, g0, by omega, by omega, rfl, rfl, .inl hq0, HO5, HBW, fun _ _ _ => rfl, Nat.le_refl _⟩
  case round =>
    clear HO5 HBW
    obtain ⟨k, c, g', hk1, hk2, rfl, rfl, hg', HO, HBB, HK, hs4⟩ := hrel
    by_cases hk : k ≤ C
    · have hkA : (k : Int) < (A : Int) + 1 := by omega
      have hkB : (k : Int) < (B : Int) + 1 := by omega
      have HP1 : Hid (OwnL wr w1.heap.size (.slice (some ⟨ga, 0, none⟩) (A + 1 : Nat) ca) R1) := HO4.out.same (fun i a b => HK.out i a b)
      have HP2 : Hid (OwnL wr w1.heap.size (.slice (some ⟨gb, 0, none⟩) (B + 1 : Nat) cb) R2) := HO3.out.same (fun i a b => HK.out i a b)
      have HDK : Hid _ := HD.out k hk1 hk
      have HTK : Hid _ := HT.out k hk
      have hll := (lenN_spec (x := k) (by omega)).2.2
      have hbt := HBT.out k hk
      have HF : Hid (∀ q, q ≤ k → wr.cell? ⟨ga, q, none⟩ = some (.int .i64 (f q : Nat)) ∧ f q ≤ 41) := fun q a => by
        obtain ⟨c1, c2⟩ := HA.out q (by omega)
        exact ⟨HP1.out.cell c1, c2⟩
      have HG : Hid (∀ q, q ≤ k → wr.cell? ⟨gb, q, none⟩ = some (.int .i64 (g q : Nat)) ∧ g q ≤ 41) := fun q a => by
        obtain ⟨c1, c2⟩ := HB.out q (by omega)
        exact ⟨HP2.out.cell c1, c2⟩
      have HDB : Hid (∀ q, q ≤ k + 1 → dear f g k q ≤ 82) := dear_bd (fun q h => (HF.out q h).2) (fun q h => (HG.out q h).2)
      have HLN : Hid (∀ w, Calls Tryz.prog 98 #[.int .u64 k] w fun e w' => e = .returned (.int .i64 (lenN k : Nat)) ∧ w' = w) := fun w => rlen_any w k (by omega)
      generalize lenN k = l at *
      clear HP1 HP2
      go_wp2_with fail
      go_loopw [9, 10] (fun m a wq => ∃ q m0 d : Nat, q ≤ k + 1 ∧ m0 ≤ 82 ∧ a = .int .i64 q ∧ m = .int .i64 m0 ∧ Hid (dear f g k q = m0) ∧ wq = wr.drewN d) (fun _ a _ => k + 1 - (intOf a).toNat)
      case atStart => exact ⟨0, 0, 0, by omega, by omega, rfl, rfl, rfl, rfl⟩
      case round =>
        obtain ⟨q, m0, d, hq, hm0, rfl, rfl, HM, rfl⟩ := hrel
        by_cases hlt : q ≤ k
        · have hlt' : (q : Int) ≤ (k : Int) := by omega
          obtain ⟨c1, f1⟩ := HF.out q hlt
          obtain ⟨c2, g1⟩ := HG.out (k - q) (by omega)
          have HDE : Hid (dear f g k (q + 1) = max (dear f g k q) (f q + g (k - q))) := by show dear f g k (q + 1) = _; rw [dear]
          have em : ((k : Int) - (q : Int)).toNat = k - q := by omega
          generalize f q = x at *
          generalize g (k - q) = y at *
          by_cases hc : m0 < x + y
          · have hc' : (m0 : Int) < (x : Int) + (y : Int) := by omega
            go_wp2
            go_quiet (fail)
            go_wp2
            go_quiet (fail)
            go_wp2
            go_roundw
            case rel => exact ⟨q + 1, x + y, _, by omega, by omega, by go_num, by go_num, by show _ = _; rw [HDE.out, HM.out]; omega, rfl⟩
            case measure => simp [intOf]; omega
          · have hc' : ¬ (m0 : Int) < (x : Int) + (y : Int) := by omega
            go_wp2
            go_quiet (fail)
            go_wp2
            go_roundw
            case rel => exact ⟨q + 1, m0, _, by omega, by omega, by go_num, by go_num, by show _ = _; rw [HDE.out, HM.out]; omega, rfl⟩
            case measure => simp [intOf]; omega
        · obtain rfl : q = k + 1 := by omega
          have HV : Hid ((l : Int) + 1 + (m0 : Int) = (t k : Nat)) := by show _ = _; have := HDK.out; rw [HM.out] at this; omega
          have hlt' : ¬ ((k + 1 : Nat) : Int) ≤ (k : Int) := by omega
          clear HF HG HDB hkA hkB
          go_wp2_with (first
            | (go_at_call 98; refine (HLN.out _).mono ?_; rintro e w4 ⟨rfl, hw⟩; obtain rfl := hw.symm; clear hw)
            | (at_builtin; refine wpList_pushL rfl _ _ rfl w.heap.size (.slice (some ⟨g', 0, none⟩) k c) (R.take k) rfl (World.ownsRow.kept HO.out (row := none) ⟨rfl, rfl, rfl, by simp, fun i hi _ => heap_alloc_old _ _ hi⟩ (by simp [Value.ownBlock])) _ ((l : Int) + 1 + (m0 : Int)) rfl (heap_alloc_new _ _) (by rw [HTK.out.2]; omega) (by have := HBB.out.size; simp; omega) ?_; intro g2 c2 w4 k1 k2 k3 k4; rw [HTK.out.2] at k1 ⊢))
          have HO6 : Hid (OwnL w4 w.heap.size (.slice (some ⟨g2, 0, none⟩) (k + 1 : Nat) c2) (R.take (k + 1))) := by
            show OwnL _ _ _ _
            rw [← HTK.out.1, ← HV.out]
            exact k1
          have hsz : wr.heap.size ≤ w4.heap.size := by have := k2.size; simp at this; omega
          have HB6 : Hid (Below w.heap.size w w4) := ((show Below w.heap.size w (wr.drewN d) from ⟨HBB.out.os, HBB.out.tape, HBB.out.output, HBB.out.size, HBB.out.block⟩).alloc HBB.out.size _).grown k2 (by have := HBB.out.size; simp; omega) (fun q e => by cases e; exact (HO.out.lt rfl).1)
          have HK6 : Hid (∀ i, w1.heap.size ≤ i → i < w3.heap.size → w4.heap[i]? = w3.heap[i]?) := by
            intro i hi1 hi2
            have hne : some i ≠ (Value.slice (some ⟨g', 0, none⟩) k c).ownBlock := by intro e; have e' : i = g' := (by simpa [Value.ownBlock] using e); omega
            refine (k2.block i (by simp; omega) hne).trans ((heap_alloc_old _ _ (by show i < wr.heap.size; omega)).trans (HK.out i hi1 hi2))
          have hg2 : g2 < w1.heap.size ∨ w3.heap.size ≤ g2 := by
            rcases k3 with e | e
            · cases e; exact hg'
            · right; rw [e]; simp; omega
          clear k1 k2 k3 k4
          go_wp2
          go_roundw
          case rel => exact ⟨k + 1, c2, g2, by omega, by omega, by go_num, rfl, hg2, HO6, HB6, HK6, by omega⟩
          case measure => simp [intOf]; omega
    · obtain rfl : k = C + 1 := by omega
      rw [HALL.out] at HO
      by_cases hA : C + 1 < A + 1
      · have hA' : ((C + 1 : Nat) : Int) < (A : Int) + 1 := by omega
        have hB' : ¬ ((C + 1 : Nat) : Int) < (B : Int) + 1 := by omega
        go_wp2
        go_returns
        exact ⟨g', c, rfl, HO.out, HBB.out⟩
      · have hA' : ¬ ((C + 1 : Nat) : Int) < (A : Int) + 1 := by omega
        go_wp2
        go_returns
        exact ⟨g', c, rfl, HO.out, HBB.out⟩

theorem rrow_in (w : World) (n : Nat) (h1 : 1 ≤ n) (h2 : n ≤ 16) : Calls Tryz.prog 78 #[.int .i64 n] w fun e w' => ∃ g c : Nat, e = .returned (.slice (some ⟨g, 0, none⟩) (cap n + 1 : Nat) c) ∧ OwnL w' w.heap.size (.slice (some ⟨g, 0, none⟩) (cap n + 1 : Nat) c) (rl n) ∧ Below w.heap.size w w' := by
  by_cases h8 : n ≤ 8
  · exact rrow_low w n h1 h8
  · exact rrow_big w n (by omega) h2
end Go.Proofs.YtfgpmdikkncckaaGreatDoor
