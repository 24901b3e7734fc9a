/-
  The law WriterRange of layer 6 as a walk: it returns true, and nothing that was there has turned.
-/
import Derived.Test.YtbllenfeleiacaaWriterLaws
namespace Go.Proofs.Ytbllenfeleiacaa
set_option linter.unusedVariables false
open Go.ChangeShapes Go.WideShapes Go.ChangeAt Go.RowKit

theorem below_alloc_drew {B : Nat} {W w : World} (h : Below B W w) (o : Obj) (hs : B ≤ w.heap.size) : Below B W (w.alloc o).drew := (h.alloc hs o).drew

theorem range_long (s : Int) (ao : Option Addr) (n cap : Nat) (w : World) (hn : 200 < n) :
    Calls Try.prog 5 #[.int .u16 s, .slice ao n cap] w fun e w' => e = .returned (.bool true) ∧ Below w.heap.size w w' := by
  have hn' : (200 : Int) < (n : Int) := by omega
  go_enter Try.func5, Try.ntmps5
  go_wp2_with (go_at_call 7; refine (awake_any _).mono ?_; rintro e W0 ⟨rfl, hB0⟩)
  go_ret
  exact ⟨rfl, hB0⟩

/-- What a symbol that is all of its total makes: nothing. -/
theorem put_all {m : Mo} (h : m.Good) {t : Int} (ht : 0 < t) : (m.put 0 t t).rng = m.rng ∧ (m.put 0 t t).nD = m.nD := by
  have e : m.part 0 t t = m.rng := by unfold Mo.part; rw [if_pos rfl]; simp
  have h1 := h.r1
  unfold Mo.put Mo.wide
  have e2 : (m.sym 0 t t).rng = m.rng := e
  rw [e2, if_neg (by omega), if_neg (by omega)]
  exact ⟨e, rfl⟩

set_option maxHeartbeats 2000000 in
set_option maxRecDepth 20000 in
theorem range_any (s : Int) (s0 : 0 ≤ s) (s1 : s < 65536) (ao : Option Addr) (n cap : Nat) (f : Nat → Opv) (w : World) (hn : n ≤ 200) (hf : Hid (OpsAt w ao n f)) :
    Calls Try.prog 5 #[.int .u16 s, .slice ao n cap] w fun e w' => e = .returned (.bool true) ∧ Below w.heap.size w w' := by
  have hn' : (n : Int) ≤ 200 := by omega
  have e1 : Int.tmod s 1272 = s % 1272 := Int.tmod_eq_emod_of_nonneg s0
  obtain ⟨z, hz⟩ : ∃ z : Nat, 4 + s % 1272 = z := ⟨(4 + s % 1272).toNat, by omega⟩
  have z0 : 4 ≤ z := by omega
  have z1 : z ≤ 1275 := by omega
  go_enter Try.func5, Try.ntmps5
  go_wp2_with (first
    | (go_at_call 7; refine (awake_any _).mono ?_; rintro e W0 ⟨rfl, HB0⟩; replace HB0 : Hid _ := HB0)
    | (go_at_call 8; refine (new_any _ z z0 z1).mono ?_; rintro e w1 ⟨rfl, HW1, HB1⟩; replace HW1 : Hid _ := HW1; replace HB1 : Hid _ := HB1))
  have HS : Hid (w.heap.size ≤ W0.heap.size) := HB0.out.size
  clear z0
  go_loopw [33] (fun i wr => ∃ (j : Nat) (m : Mo), j ≤ n ∧ i = .int .i64 j ∧ Hid m.Good ∧ m.nD ≤ 3 + 2 * j ∧ m.nR ≤ 0 ∧ Hid (WrAt wr W0.heap.size z m) ∧ Hid (Below w.heap.size w wr)) (fun i _ => n - (intOf i).toNat)
  case atStart => exact ⟨0, Mo.new, by omega, rfl, new_ok, by decide, by decide, HW1.out, HB0.out.trans (HB1.out.mono HB0.out.size)⟩
  case round =>
    obtain ⟨j, m, hj, rfl, HG, n1, n2, HW, HB⟩ := hrel
    by_cases hlt : j < n
    · have hlt' : (j : Int) < n := by omega
      obtain ⟨bo, off, rfl, c0, c1, c2, c3, c4, ho⟩ := (hf.out.below HB.out) j hlt
      generalize f j = o at *
      obtain ⟨k, x, y, t, u⟩ := o
      simp only at c0 c1 c2 c3 c4
      have hsz : w.heap.size ≤ wr.heap.size := HB.out.size
      clear ho
      have h3 := HW.out.ok.n3
      have HLT : Hid (W0.heap.size < wr.heap.size) := HW.out.lt
      have HL : Hid (-100000 ≤ m.left z ∧ m.left z ≤ 100000) := by show _ ∧ _; unfold Mo.left; omega
      by_cases hm : 0 ≤ x ∧ x < y ∧ y ≤ t ∧ t ≤ 4096
      · have HM : Hid _ := hm
        have hn2 := put_nD m x y t
        have hr2 := (put_nR m x y t).1
        have hg2 := put_ok HG.out hm
        have hd : 0 ≤ m.left z - (m.put x y t).left z ∧ m.left z - (m.put x y t).left z ≤ 16 := by unfold Mo.left; omega
        have hall : x = 0 → y = t → m.left z - (m.put x y t).left z = 0 ∧ (m.put x y t).rng = m.rng := by
          rintro rfl rfl
          have := put_all HG.out (t := y) (by omega)
          refine ⟨?_, this.1⟩
          unfold Mo.left; rw [this.2, hr2]; omega
        have HL2 : Hid (-200000 ≤ (m.put x y t).left z ∧ (m.put x y t).left z ≤ 200000) := by have := HL.out; show _ ∧ _; omega
        have q1 := hg2.r1
        have q2 := hg2.r2
        have HG2 : Hid _ := hg2
        generalize hm2 : m.put x y t = m2 at *
        have HM2 : Hid _ := hm2
        obtain ⟨d, hd'⟩ : ∃ d, m.left z - m2.left z = d := ⟨_, rfl⟩
        have hw64 : IntKind.i64.wrap (m.left z - m2.left z) = d := by rw [hd']; have := HL.out; have := HL2.out; simp [IntKind.wrap, IntKind.bits, IntKind.signed]; omega
        rw [hd'] at hd hall
        obtain ⟨d0, d1⟩ := hd
        clear hm hm2 hg2
        have nm : m.nD ≤ 600000 := by omega
        have nk : m.nR ≤ 600000 := by omega
        have nm2 : m2.nD ≤ 700000 := by omega
        have nk2 : m2.nR ≤ 700000 := by omega
        have p1 : ¬ d < 0 := by omega
        have p2 : ¬ 16 < d := by omega
        have p3 : ¬ m2.rng ≤ 65536 := by omega
        have p4 : ¬ 16777216 < m2.rng := by omega
        have hA : (x = 0 ∧ y = t ∧ d = 0 ∧ m2.rng = m.rng) ∨ ¬ x = 0 ∨ (x = 0 ∧ ¬ y = t) := by
          by_cases a1 : x = 0
          · by_cases a2 : y = t
            · exact .inl ⟨a1, a2, hall a1 a2⟩
            · exact .inr (.inr ⟨a1, a2⟩)
          · exact .inr (.inl a1)
        clear hall
        have nm3 : m.nD ≤ 700000 := by omega
        have nk3 : m.nR ≤ 700000 := by omega
        rcases hA with ⟨rfl, rfl, rfl, a4⟩ | a1 | ⟨rfl, a2⟩
        · go_wp2_with (first
            | (go_at_call 15; refine (left_wr _ W0.heap.size z m2 z1 nm2 nk2 (show WrAt _ _ z m2 from WrAt.kept (row := none) HW2.out (by repeat (first | (with_reducible exact grown_refl _ none) | (with_reducible refine grown_alloc ?_ _) | (with_reducible refine grown_drew ?_))) (by simp))).mono ?_; rintro e w3 ⟨rfl, rfl⟩)
            | (go_at_call 15; refine (left_wr _ W0.heap.size z m z1 nm3 nk3 (show WrAt _ _ z m from WrAt.kept (row := none) HW.out (by repeat (first | (with_reducible exact grown_refl _ none) | (with_reducible refine grown_alloc ?_ _) | (with_reducible refine grown_drew ?_))) (by simp))).mono ?_; rintro e w3 ⟨rfl, rfl⟩)
            | (go_at_call 17; refine (rng_wr _ W0.heap.size z m2 (show WrAt _ _ z m2 from WrAt.kept (row := none) HW2.out (by repeat (first | (with_reducible exact grown_refl _ none) | (with_reducible refine grown_alloc ?_ _) | (with_reducible refine grown_drew ?_))) (by simp))).mono ?_; rintro e w3 ⟨rfl, rfl⟩)
            | (go_at_call 17; refine (rng_wr _ W0.heap.size z m (show WrAt _ _ z m from WrAt.kept (row := none) HW.out (by repeat (first | (with_reducible exact grown_refl _ none) | (with_reducible refine grown_alloc ?_ _) | (with_reducible refine grown_drew ?_))) (by simp))).mono ?_; rintro e w3 ⟨rfl, rfl⟩)
            | (go_at_call 10; refine (put_wr _ W0.heap.size z m 0 y y z1 nm nk HG HM (show WrAt _ _ z m from WrAt.kept (row := none) HW.out (by repeat (first | (with_reducible exact grown_refl _ none) | (with_reducible refine grown_alloc ?_ _) | (with_reducible refine grown_drew ?_))) (by simp))).mono ?_; rintro e w2 ⟨rfl, HW2, HB2⟩; rw [HM2.out] at HW2; have o1 := op_cell HB2 HLT.out 1 rfl; have o2 := op_cell HB2 HLT.out 2 rfl; have o3 := op_cell HB2 HLT.out 3 rfl; replace HW2 : Hid (WrAt w2 W0.heap.size z m2) := HW2; replace HB2 : Hid _ := HB2))
          go_roundw
          case rel => exact ⟨j + 1, m2, by omega, by go_num, HG2, by omega, by omega, (show WrAt _ _ z m2 from WrAt.kept (row := none) HW2.out (by repeat (first | (with_reducible exact grown_refl _ none) | (with_reducible refine grown_alloc ?_ _) | (with_reducible refine grown_drew ?_))) (by simp)), (below_grown (below_alloc_drew HB.out _ hsz) HB2.out HS.out (Nat.le_trans hsz (grown_size (grown_drew (grown_alloc (grown_refl wr none) _))))).drew⟩
          case measure => simp [intOf]; omega
        · go_wp2_with (first
            | (go_at_call 15; refine (left_wr _ W0.heap.size z m2 z1 nm2 nk2 (show WrAt _ _ z m2 from WrAt.kept (row := none) HW2.out (by repeat (first | (with_reducible exact grown_refl _ none) | (with_reducible refine grown_alloc ?_ _) | (with_reducible refine grown_drew ?_))) (by simp))).mono ?_; rintro e w3 ⟨rfl, rfl⟩)
            | (go_at_call 15; refine (left_wr _ W0.heap.size z m z1 nm3 nk3 (show WrAt _ _ z m from WrAt.kept (row := none) HW.out (by repeat (first | (with_reducible exact grown_refl _ none) | (with_reducible refine grown_alloc ?_ _) | (with_reducible refine grown_drew ?_))) (by simp))).mono ?_; rintro e w3 ⟨rfl, rfl⟩)
            | (go_at_call 17; refine (rng_wr _ W0.heap.size z m2 (show WrAt _ _ z m2 from WrAt.kept (row := none) HW2.out (by repeat (first | (with_reducible exact grown_refl _ none) | (with_reducible refine grown_alloc ?_ _) | (with_reducible refine grown_drew ?_))) (by simp))).mono ?_; rintro e w3 ⟨rfl, rfl⟩)
            | (go_at_call 17; refine (rng_wr _ W0.heap.size z m (show WrAt _ _ z m from WrAt.kept (row := none) HW.out (by repeat (first | (with_reducible exact grown_refl _ none) | (with_reducible refine grown_alloc ?_ _) | (with_reducible refine grown_drew ?_))) (by simp))).mono ?_; rintro e w3 ⟨rfl, rfl⟩)
            | (go_at_call 10; refine (put_wr _ W0.heap.size z m x y t z1 nm nk HG HM (show WrAt _ _ z m from WrAt.kept (row := none) HW.out (by repeat (first | (with_reducible exact grown_refl _ none) | (with_reducible refine grown_alloc ?_ _) | (with_reducible refine grown_drew ?_))) (by simp))).mono ?_; rintro e w2 ⟨rfl, HW2, HB2⟩; rw [HM2.out] at HW2; have o1 := op_cell HB2 HLT.out 1 rfl; have o2 := op_cell HB2 HLT.out 2 rfl; have o3 := op_cell HB2 HLT.out 3 rfl; replace HW2 : Hid (WrAt w2 W0.heap.size z m2) := HW2; replace HB2 : Hid _ := HB2))
          go_roundw
          case rel => exact ⟨j + 1, m2, by omega, by go_num, HG2, by omega, by omega, (show WrAt _ _ z m2 from WrAt.kept (row := none) HW2.out (by repeat (first | (with_reducible exact grown_refl _ none) | (with_reducible refine grown_alloc ?_ _) | (with_reducible refine grown_drew ?_))) (by simp)), (below_grown (below_alloc_drew HB.out _ hsz) HB2.out HS.out (Nat.le_trans hsz (grown_size (grown_drew (grown_alloc (grown_refl wr none) _))))).drew⟩
          case measure => simp [intOf]; omega
        · go_wp2_with (first
            | (go_at_call 15; refine (left_wr _ W0.heap.size z m2 z1 nm2 nk2 (show WrAt _ _ z m2 from WrAt.kept (row := none) HW2.out (by repeat (first | (with_reducible exact grown_refl _ none) | (with_reducible refine grown_alloc ?_ _) | (with_reducible refine grown_drew ?_))) (by simp))).mono ?_; rintro e w3 ⟨rfl, rfl⟩)
            | (go_at_call 15; refine (left_wr _ W0.heap.size z m z1 nm3 nk3 (show WrAt _ _ z m from WrAt.kept (row := none) HW.out (by repeat (first | (with_reducible exact grown_refl _ none) | (with_reducible refine grown_alloc ?_ _) | (with_reducible refine grown_drew ?_))) (by simp))).mono ?_; rintro e w3 ⟨rfl, rfl⟩)
            | (go_at_call 17; refine (rng_wr _ W0.heap.size z m2 (show WrAt _ _ z m2 from WrAt.kept (row := none) HW2.out (by repeat (first | (with_reducible exact grown_refl _ none) | (with_reducible refine grown_alloc ?_ _) | (with_reducible refine grown_drew ?_))) (by simp))).mono ?_; rintro e w3 ⟨rfl, rfl⟩)
            | (go_at_call 17; refine (rng_wr _ W0.heap.size z m (show WrAt _ _ z m from WrAt.kept (row := none) HW.out (by repeat (first | (with_reducible exact grown_refl _ none) | (with_reducible refine grown_alloc ?_ _) | (with_reducible refine grown_drew ?_))) (by simp))).mono ?_; rintro e w3 ⟨rfl, rfl⟩)
            | (go_at_call 10; refine (put_wr _ W0.heap.size z m 0 y t z1 nm nk HG HM (show WrAt _ _ z m from WrAt.kept (row := none) HW.out (by repeat (first | (with_reducible exact grown_refl _ none) | (with_reducible refine grown_alloc ?_ _) | (with_reducible refine grown_drew ?_))) (by simp))).mono ?_; rintro e w2 ⟨rfl, HW2, HB2⟩; rw [HM2.out] at HW2; have o1 := op_cell HB2 HLT.out 1 rfl; have o2 := op_cell HB2 HLT.out 2 rfl; have o3 := op_cell HB2 HLT.out 3 rfl; replace HW2 : Hid (WrAt w2 W0.heap.size z m2) := HW2; replace HB2 : Hid _ := HB2))
          go_roundw
          case rel => exact ⟨j + 1, m2, by omega, by go_num, HG2, by omega, by omega, (show WrAt _ _ z m2 from WrAt.kept (row := none) HW2.out (by repeat (first | (with_reducible exact grown_refl _ none) | (with_reducible refine grown_alloc ?_ _) | (with_reducible refine grown_drew ?_))) (by simp)), (below_grown (below_alloc_drew HB.out _ hsz) HB2.out HS.out (Nat.le_trans hsz (grown_size (grown_drew (grown_alloc (grown_refl wr none) _))))).drew⟩
          case measure => simp [intOf]; omega
      · have HM : Hid _ := hm
        clear hm
        have nm3 : m.nD ≤ 700000 := by omega
        have nk3 : m.nR ≤ 700000 := by omega
        go_wp2_with (first
            | (go_at_call 15; refine (left_wr _ W0.heap.size z m z1 nm3 nk3 (show WrAt _ _ z m from WrAt.kept (row := none) HW.out (by repeat (first | (with_reducible exact grown_refl _ none) | (with_reducible refine grown_alloc ?_ _) | (with_reducible refine grown_drew ?_))) (by simp))).mono ?_; rintro e w3 ⟨rfl, rfl⟩)
            | (go_at_call 17; refine (rng_wr _ W0.heap.size z m (show WrAt _ _ z m from WrAt.kept (row := none) HW.out (by repeat (first | (with_reducible exact grown_refl _ none) | (with_reducible refine grown_alloc ?_ _) | (with_reducible refine grown_drew ?_))) (by simp))).mono ?_; rintro e w3 ⟨rfl, rfl⟩)
            | (go_at_call 10; refine (put_bad _ W0.heap.size z m x y t HM.out).mono ?_; rintro e w2 ⟨rfl, rfl⟩))
        go_roundw
        case rel => exact ⟨j + 1, m, by omega, by go_num, HG, by omega, by omega, (show WrAt _ _ z m from WrAt.kept (row := none) HW.out (by repeat (first | (with_reducible exact grown_refl _ none) | (with_reducible refine grown_alloc ?_ _) | (with_reducible refine grown_drew ?_))) (by simp)), (below_alloc_drew HB.out _ hsz).drew⟩
        case measure => simp [intOf]; omega
    · have e : j = n := by omega
      subst e
      clear hlt
      go_wp2
      go_ret
      exact ⟨rfl, HB.out⟩

end Go.Proofs.Ytbllenfeleiacaa
