/-
  What Raw of the document's own reader (spinetref07) does. Nothing is turned but its own block.
-/
import Derived.Test.YtiejdlapgppbkaaDoorReaderRef
namespace Go.Proofs.YtiejdlapgppbkaaDoor
set_option linter.unusedVariables false
open Go.ChangeShapes Go.WideShapes Go.ChangeAt Go.RowKit

theorem grown_dN (w : World) (q : Nat) : w.grownBy (w.drewN q) none := ⟨rfl, rfl, rfl, Nat.le_refl _, fun _ _ _ => rfl⟩
/-- A byte, halved so often. -/
def halves (x : Int) : Nat → Int
  | 0 => x
  | k + 1 => halves x k / 2
theorem halves_eq (x : Int) : ∀ k, halves x k = x / 2 ^ k
  | 0 => by rw [halves]; simp
  | k + 1 => by
    rw [halves, halves_eq x k, Int.pow_succ, Int.ediv_ediv_of_nonneg (Int.le_of_lt (Int.pow_pos (by decide)))]
theorem halves_bd {x : Int} (h0 : 0 ≤ x) (h1 : x ≤ 255) : ∀ k, 0 ≤ halves x k ∧ halves x k ≤ 255
  | 0 => ⟨h0, h1⟩
  | k + 1 => by have := halves_bd h0 h1 k; rw [halves]; omega

set_option maxHeartbeats 4000000 in
set_option maxRecDepth 20000 in
theorem rfraw (w : World) (B b : Nat) (ao : Option Addr) (n cap : Nat) (p : Nat → Int) (m : Re) (c : Int) (hn : n ≤ 100000) (hl : m.nb ≤ 700000) (hp : Hid (Bx n p)) (h : Hid (Rf w B b ao n cap p m)) :
    Calls Tryd.prog 17 #[.pointer (some ⟨b, 0, none⟩), .int .i64 c] w fun e w' => e = .returned (.int .i64 (rsum n p m.nb (rawK c))) ∧ Rf w' B b ao n cap p (m.raw (rawK c)) ∧ w.grownBy w' (some b) := by
  have hk := rawK_le c
  have hcase : (c ≤ 0 ∧ rawK c = 0) ∨ (0 < c ∧ 16 < c ∧ rawK c = 16) ∨ (0 < c ∧ c ≤ 16 ∧ c = (rawK c : Int)) := by
    unfold rawK
    by_cases z1 : c < 0
    · rw [if_pos z1]; omega
    · rw [if_neg z1]
      by_cases z2 : 16 < c
      · rw [if_pos z2]; omega
      · rw [if_neg z2]; omega
  generalize rawK c = k at *
  have ni : (n : Int) ≤ 100000 := by omega
  go_enter Tryd.func17, Tryd.ntmps17
  rcases hcase with ⟨c1, rfl⟩ | ⟨c1, c2, ck⟩ | ⟨c1, c2, rfl⟩
  · have c3 : ¬ 16 < c := by omega
    go_wp2
    refine wp_loop_rounds 1 ?_
    rw [rounds_succ]
    go_wp2
    go_ret
    exact ⟨rfl, h.out, grown_refl _ _⟩
  · have ck' : (k : Int) = 16 := by omega
    go_wp2
    go_loopw [5, 6, 7, 8, 9] (fun o q i _ _ wr => ∃ j : Nat, j ≤ k ∧ i = .int .i64 j ∧ q = .int .i64 (2 ^ j) ∧ o = .int .i64 (rsum n p m.nb j) ∧ Hid (Rf wr B b ao n cap p (m.raw j)) ∧ Hid (w.grownBy wr (some b))) (fun _ _ i _ _ _ => k - (intOf i).toNat)
    case atStart => exact ⟨0, by omega, rfl, rfl, rfl, h, grown_refl _ _⟩
    case round =>
      obtain ⟨j, hj, rfl, rfl, rfl, HW, HB⟩ := hrel
      by_cases hlt : j < k
      · have hlt' : (j : Int) < 16 := by omega
        have hpos : (0 : Int) < 2 ^ j := Int.pow_pos (by decide)
        have hp16 : (2 : Int) ^ j ≤ 65536 := pow16 (by omega)
        have hb := rbit_bd n p (m.nb + j)
        have hs := rsum_bd n p m.nb j
        have HR : Hid (rsum n p m.nb (j + 1) = rsum n p m.nb j + rbit n p (m.nb + j) * 2 ^ j) := rfl
        have HN : Hid ((m.raw j).raw 1 = m.raw (j + 1)) := rfl
        have HPW : Hid ((2 : Int) ^ (j + 1) = 2 ^ j * 2) := Int.pow_succ _ _
        have h0 := HW.out.c0
        have h2 := HW.out.c2
        have fz := HW.out.fz
        have enb : (m.raw j).nb = m.nb + j := rfl
        rw [enb] at h2
        have HS : Hid (Rf (wr.setCell ⟨b, 2, none⟩ (.int .i64 (((m.nb + j : Nat) : Int) + 1))) B b ao n cap p (m.raw (j + 1))) := HW.out.set2 (m.nb + j + 1)
        have n1 : m.nb + j ≤ 800000 := by omega
        have HRB : Hid (rbit n p (m.nb + j) = rbit n p (m.nb + j)) := rfl
        obtain ⟨a, ha⟩ : ∃ a : Nat, m.nb + j = a := ⟨_, rfl⟩
        rw [ha] at h2 hb HR HS n1
        have ai : (a : Int) ≤ 800000 := by omega
        obtain ⟨d, hd⟩ : ∃ d : Nat, (a : Int).tdiv 8 = d := ⟨a / 8, by rw [Int.tdiv_eq_ediv_of_nonneg (by omega)]; omega⟩
        obtain ⟨s, hs8⟩ : ∃ s : Nat, (a : Int).tmod 8 = s := ⟨a % 8, by rw [Int.tmod_eq_emod_of_nonneg (by omega)]; omega⟩
        have ej : a / 8 = d := by rw [Int.tdiv_eq_ediv_of_nonneg (by omega)] at hd; omega
        have es : a % 8 = s := by rw [Int.tmod_eq_emod_of_nonneg (by omega)] at hs8; omega
        have s8 : (s : Int) < 8 := by omega
        have jb : (d : Int) ≤ 100000 := by omega
        -- the byte, and the bit out of it
        obtain ⟨bv, hbv⟩ : ∃ bv : Int, (if d < n then p (n - 1 - d) else 0) = bv := ⟨_, rfl⟩
        have HY : Hid (rbit n p a = halves bv s % 2) := by
          show _ = _
          unfold rbit
          rw [ej, es, halves_eq, ← hbv]
          by_cases hdn : d < n
          · rw [if_pos hdn, if_pos hdn]
          · rw [if_neg hdn, if_neg hdn]; simp
        have hbb : 0 ≤ bv ∧ bv ≤ 255 := by
          rw [← hbv]
          by_cases hdn : d < n
          · rw [if_pos hdn]; exact hp.out.b _
          · rw [if_neg hdn]; exact ⟨Int.le_refl _, by decide⟩
        have HBY : Hid (∀ ww, Rf ww B b ao n cap p (m.raw j) → Calls Tryd.prog 37 #[.pointer (some ⟨b, 0, none⟩), .int .i64 ((n : Int) - 1 - d)] ww fun e w' => e = .returned (.int .i64 bv) ∧ w' = ww) := by
          intro ww hww
          rw [← hbv]
          by_cases hdn : d < n
          · rw [if_pos hdn]
            have := rbyte ww B b ao n cap p (m.raw j) (n - 1 - d) hn (by omega) hp hww
            rw [show ((n - 1 - d : Nat) : Int) = (n : Int) - 1 - d by omega] at this
            exact this
          · rw [if_neg hdn]
            exact rbyte_neg ww b _ (by omega)
        generalize rbit n p a = y at *
        generalize rsum n p m.nb j = x at *
        have hy : y * 2 ^ j ≤ 65536 := by
          obtain e | e : y = 0 ∨ y = 1 := by omega
          · rw [e]; omega
          · rw [e]; omega
        have hy0 : 0 ≤ y * 2 ^ j := Int.mul_nonneg hb.1 (by omega)
        have hx0 : 0 ≤ x := hs.1
        have hx1 : x < 65536 := by omega
        have hpb : (2 : Int) ^ j ≤ 65536 := hp16
        generalize hpj : (2 : Int) ^ j = P at *
        clear hs hbv ej es ha HRB enb HN
        have eD0 := wrap_i64 (x := (n : Int) - 1 - d) (by omega) (by omega)
        have eD1 := wrap_i64 (x := (n : Int) - 1) (by omega) (by omega)
        have eD2 := wrap_i64 (x := (d : Int)) (by omega) (by omega)
        go_wp2
        go_quiet (first | (go_at_call 37; refine (HBY.out _ (by exact Rf.keep HW.out (by repeat (first | (with_reducible exact grown_refl _ none) | (with_reducible exact grown_dN _ _) | (with_reducible refine grown_drew ?_))))).mono ?_; rintro e w5 ⟨rfl, rfl⟩; exact ⟨rfl, _, rfl⟩))
        go_wp2
        go_loopw [8, 9] (fun x' k' wq => ∃ q : Nat, q ≤ s ∧ k' = .int .i64 q ∧ x' = .int .i64 (halves bv q) ∧ wr.drewN nq = wq) (fun _ k' _ => s - (intOf k').toNat)
        case atStart => exact ⟨0, Nat.zero_le _, rfl, rfl, rfl⟩
        case round =>
          obtain ⟨q, hq, rfl, rfl, rfl⟩ := hrel
          have hh := halves_bd hbb.1 hbb.2 q
          by_cases hqs : q < s
          · have hqs' : (q : Int) < s := by omega
            have HH : Hid (halves bv (q + 1) = halves bv q / 2) := rfl
            have e7 : (halves bv q).tdiv 2 = halves bv q / 2 := Int.tdiv_eq_ediv_of_nonneg hh.1
            generalize halves bv q = hx at *
            go_wp2
            go_roundw
            case rel => exact ⟨q + 1, by omega, by go_num, by rw [HH.out], by first | rfl | trivial⟩
            case measure => simp [intOf]; omega
          · have e : q = s := by omega
            subst e
            have hqs' : ¬ ((q : Int) < q) := by omega
            have e7 : (halves bv q).tmod 2 = y := by rw [Int.tmod_eq_emod_of_nonneg hh.1]; exact HY.out.symm
            generalize halves bv q = hx at *
            clear hqs
            go_wp2
            go_roundw
            case rel => exact ⟨j + 1, by omega, by go_num, by rw [HPW.out], by rw [HR.out], HS.out.keep (grown_dN _ nq), grown_trans (grown_set HB.out _) (grown_none (grown_dN _ nq) _)⟩
            case measure => simp [intOf]; omega
      · have e : j = k := by omega
        subst e
        clear hlt
        go_wp2
        go_ret
        exact ⟨rfl, HW.out, HB.out⟩
  · have ck' : (k : Int) ≤ 16 := by omega
    go_wp2
    go_loopw [5, 6, 7, 8, 9] (fun o q i _ _ wr => ∃ j : Nat, j ≤ k ∧ i = .int .i64 j ∧ q = .int .i64 (2 ^ j) ∧ o = .int .i64 (rsum n p m.nb j) ∧ Hid (Rf wr B b ao n cap p (m.raw j)) ∧ Hid (w.grownBy wr (some b))) (fun _ _ i _ _ _ => k - (intOf i).toNat)
    case atStart => exact ⟨0, by omega, rfl, rfl, rfl, h, grown_refl _ _⟩
    case round =>
      obtain ⟨j, hj, rfl, rfl, rfl, HW, HB⟩ := hrel
      by_cases hlt : j < k
      · have hlt' : (j : Int) < k := by omega
        have hpos : (0 : Int) < 2 ^ j := Int.pow_pos (by decide)
        have hp16 : (2 : Int) ^ j ≤ 65536 := pow16 (by omega)
        have hb := rbit_bd n p (m.nb + j)
        have hs := rsum_bd n p m.nb j
        have HR : Hid (rsum n p m.nb (j + 1) = rsum n p m.nb j + rbit n p (m.nb + j) * 2 ^ j) := rfl
        have HN : Hid ((m.raw j).raw 1 = m.raw (j + 1)) := rfl
        have HPW : Hid ((2 : Int) ^ (j + 1) = 2 ^ j * 2) := Int.pow_succ _ _
        have h0 := HW.out.c0
        have h2 := HW.out.c2
        have fz := HW.out.fz
        have enb : (m.raw j).nb = m.nb + j := rfl
        rw [enb] at h2
        have HS : Hid (Rf (wr.setCell ⟨b, 2, none⟩ (.int .i64 (((m.nb + j : Nat) : Int) + 1))) B b ao n cap p (m.raw (j + 1))) := HW.out.set2 (m.nb + j + 1)
        have n1 : m.nb + j ≤ 800000 := by omega
        have HRB : Hid (rbit n p (m.nb + j) = rbit n p (m.nb + j)) := rfl
        obtain ⟨a, ha⟩ : ∃ a : Nat, m.nb + j = a := ⟨_, rfl⟩
        rw [ha] at h2 hb HR HS n1
        have ai : (a : Int) ≤ 800000 := by omega
        obtain ⟨d, hd⟩ : ∃ d : Nat, (a : Int).tdiv 8 = d := ⟨a / 8, by rw [Int.tdiv_eq_ediv_of_nonneg (by omega)]; omega⟩
        obtain ⟨s, hs8⟩ : ∃ s : Nat, (a : Int).tmod 8 = s := ⟨a % 8, by rw [Int.tmod_eq_emod_of_nonneg (by omega)]; omega⟩
        have ej : a / 8 = d := by rw [Int.tdiv_eq_ediv_of_nonneg (by omega)] at hd; omega
        have es : a % 8 = s := by rw [Int.tmod_eq_emod_of_nonneg (by omega)] at hs8; omega
        have s8 : (s : Int) < 8 := by omega
        have jb : (d : Int) ≤ 100000 := by omega
        -- the byte, and the bit out of it
        obtain ⟨bv, hbv⟩ : ∃ bv : Int, (if d < n then p (n - 1 - d) else 0) = bv := ⟨_, rfl⟩
        have HY : Hid (rbit n p a = halves bv s % 2) := by
          show _ = _
          unfold rbit
          rw [ej, es, halves_eq, ← hbv]
          by_cases hdn : d < n
          · rw [if_pos hdn, if_pos hdn]
          · rw [if_neg hdn, if_neg hdn]; simp
        have hbb : 0 ≤ bv ∧ bv ≤ 255 := by
          rw [← hbv]
          by_cases hdn : d < n
          · rw [if_pos hdn]; exact hp.out.b _
          · rw [if_neg hdn]; exact ⟨Int.le_refl _, by decide⟩
        have HBY : Hid (∀ ww, Rf ww B b ao n cap p (m.raw j) → Calls Tryd.prog 37 #[.pointer (some ⟨b, 0, none⟩), .int .i64 ((n : Int) - 1 - d)] ww fun e w' => e = .returned (.int .i64 bv) ∧ w' = ww) := by
          intro ww hww
          rw [← hbv]
          by_cases hdn : d < n
          · rw [if_pos hdn]
            have := rbyte ww B b ao n cap p (m.raw j) (n - 1 - d) hn (by omega) hp hww
            rw [show ((n - 1 - d : Nat) : Int) = (n : Int) - 1 - d by omega] at this
            exact this
          · rw [if_neg hdn]
            exact rbyte_neg ww b _ (by omega)
        generalize rbit n p a = y at *
        generalize rsum n p m.nb j = x at *
        have hy : y * 2 ^ j ≤ 65536 := by
          obtain e | e : y = 0 ∨ y = 1 := by omega
          · rw [e]; omega
          · rw [e]; omega
        have hy0 : 0 ≤ y * 2 ^ j := Int.mul_nonneg hb.1 (by omega)
        have hx0 : 0 ≤ x := hs.1
        have hx1 : x < 65536 := by omega
        have hpb : (2 : Int) ^ j ≤ 65536 := hp16
        generalize hpj : (2 : Int) ^ j = P at *
        clear hs hbv ej es ha HRB enb HN
        have eD0 := wrap_i64 (x := (n : Int) - 1 - d) (by omega) (by omega)
        have eD1 := wrap_i64 (x := (n : Int) - 1) (by omega) (by omega)
        have eD2 := wrap_i64 (x := (d : Int)) (by omega) (by omega)
        go_wp2
        go_quiet (first | (go_at_call 37; refine (HBY.out _ (by exact Rf.keep HW.out (by repeat (first | (with_reducible exact grown_refl _ none) | (with_reducible exact grown_dN _ _) | (with_reducible refine grown_drew ?_))))).mono ?_; rintro e w5 ⟨rfl, rfl⟩; exact ⟨rfl, _, rfl⟩))
        go_wp2
        go_loopw [8, 9] (fun x' k' wq => ∃ q : Nat, q ≤ s ∧ k' = .int .i64 q ∧ x' = .int .i64 (halves bv q) ∧ wr.drewN nq = wq) (fun _ k' _ => s - (intOf k').toNat)
        case atStart => exact ⟨0, Nat.zero_le _, rfl, rfl, rfl⟩
        case round =>
          obtain ⟨q, hq, rfl, rfl, rfl⟩ := hrel
          have hh := halves_bd hbb.1 hbb.2 q
          by_cases hqs : q < s
          · have hqs' : (q : Int) < s := by omega
            have HH : Hid (halves bv (q + 1) = halves bv q / 2) := rfl
            have e7 : (halves bv q).tdiv 2 = halves bv q / 2 := Int.tdiv_eq_ediv_of_nonneg hh.1
            generalize halves bv q = hx at *
            go_wp2
            go_roundw
            case rel => exact ⟨q + 1, by omega, by go_num, by rw [HH.out], by first | rfl | trivial⟩
            case measure => simp [intOf]; omega
          · have e : q = s := by omega
            subst e
            have hqs' : ¬ ((q : Int) < q) := by omega
            have e7 : (halves bv q).tmod 2 = y := by rw [Int.tmod_eq_emod_of_nonneg hh.1]; exact HY.out.symm
            generalize halves bv q = hx at *
            clear hqs
            go_wp2
            go_roundw
            case rel => exact ⟨j + 1, by omega, by go_num, by rw [HPW.out], by rw [HR.out], HS.out.keep (grown_dN _ nq), grown_trans (grown_set HB.out _) (grown_none (grown_dN _ nq) _)⟩
            case measure => simp [intOf]; omega
      · have e : j = k := by omega
        subst e
        clear hlt
        go_wp2
        go_ret
        exact ⟨rfl, HW.out, HB.out⟩

end Go.Proofs.YtiejdlapgppbkaaDoor
