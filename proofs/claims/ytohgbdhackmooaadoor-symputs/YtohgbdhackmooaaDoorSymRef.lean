/-
  What the document's own answers for layer 9 (spinetref09) do: Parts, Place, PutUint, PutStep. Nothing that was there ahead of the document's writer is turned.
-/
import Derived.Test.YtohgbdhackmooaaDoorSymStep
import Derived.Test.YtohgbdhackmooaaDoorWriterRef
import Derived.Deep.RegionLaw
namespace Go.Proofs.YtohgbdhackmooaaDoor
set_option linter.unusedVariables false
open Go.ChangeShapes Go.WideShapes Go.ChangeAt Go.RowKit

theorem Sp.loop {t q : Int} {s j : Nat} (h : Sp t q s) (hj : j < s) : 255 < (t - 1) / 2 ^ j := by
  have ht : 256 < t := by
    by_cases e : t ≤ 256
    · have := h.low e; omega
    · omega
  have h1 := (h.high ht).2
  have p := pow_pos' j
  have h2 : (2 : Int) ^ (8 + j) ≤ 2 ^ (s + 7) := pow_le' (by omega)
  rw [Int.pow_add] at h2
  have h3 : (256 : Int) ≤ (t - 1) / 2 ^ j := by
    rw [Int.le_ediv_iff_mul_le p]
    have : (2 : Int) ^ 8 = 256 := by decide
    rw [this] at h2
    omega
  omega

set_option maxRecDepth 20000 in
theorem parts_any9 (t q : Int) (s : Nat) (w : World) (h : Hid (Sp t q s)) :
    Calls Tryd.prog 42 #[.int .i64 t] w fun e w' => e = .returned (.tuple #[.int .i64 q, .int .i64 (2 ^ s), .int .i64 s]) ∧ w' = w := by
  have t1 := h.out.t1
  have t2 := h.out.t2
  have s2 := h.out.s2
  have qb := h.out.q_bd
  by_cases hl : t ≤ 256
  · obtain rfl : s = 0 := h.out.low hl
    obtain rfl : q = t := by have := h.out.q; rw [this]; simp
    go_enter Tryd.func42, Tryd.ntmps42
    go_wp2
    go_returns
    exact ⟨rfl, rfl⟩
  · have hl' : ¬ t ≤ 256 := hl
    clear hl
    have HQ : Hid (q = (t - 1) / 2 ^ s + 1) := h.out.q
    go_enter Tryd.func42, Tryd.ntmps42
    go_wp2
    go_loopw [5, 6] (fun pv sv wr => ∃ j : Nat, j ≤ s ∧ pv = .int .i64 (2 ^ j) ∧ sv = .int .i64 j ∧ wr = w) (fun _ sv _ => s - (intOf sv).toNat)
    case atStart => exact ⟨0, by omega, rfl, rfl, rfl⟩
    case round =>
      obtain ⟨j, hj, rfl, rfl, rfl⟩ := hrel
      have p1 := pow_pos' j
      have p2 : (2 : Int) ^ j ≤ 65536 := by
        have := pow_le' (a := j) (b := 16) (by omega)
        have : (2 : Int) ^ 16 = 65536 := by decide
        omega
      have e1 : (t - 1).tdiv (2 ^ j) = (t - 1) / 2 ^ j := Int.tdiv_eq_ediv_of_nonneg (by omega)
      have d0 : 0 ≤ (t - 1) / 2 ^ j := Int.ediv_nonneg (by omega) (by omega)
      have d1 : (t - 1) / 2 ^ j ≤ t - 1 := Int.ediv_le_self _ (by omega)
      by_cases hlt : j < s
      · have hc := h.out.loop hlt
        have HP : Hid ((2 : Int) ^ (j + 1) = 2 ^ j * 2) := Int.pow_succ _ _
        generalize (2 : Int) ^ j = P at *
        generalize hD : (t - 1) / P = D at *
        have p3 : ¬ P = 0 := by omega
        clear hD
        go_wp2
        go_roundw
        case rel => exact ⟨j + 1, by omega, by rw [HP.out], by go_num, trivial⟩
        case measure => simp [intOf]; omega
      · obtain rfl : j = s := by omega
        obtain ⟨P, hP⟩ : ∃ P, (2 : Int) ^ j = P := ⟨_, rfl⟩
        rw [hP] at p1 p2 e1 d0 d1 HQ ⊢
        obtain ⟨D, hD⟩ : ∃ D, (t - 1) / P = D := ⟨_, rfl⟩
        rw [hD] at e1 d0 d1 HQ
        have p3 : ¬ P = 0 := by omega
        have hc : ¬ 255 < D := by have := HQ.out; omega
        have HP : Hid ((2 : Int) ^ j = P) := hP
        clear hD hP
        go_wp2
        go_returns
        exact ⟨by rw [HQ.out, HP.out]; rfl, rfl⟩

/-- The widths of the steps by their distance from 0. -/
def plW (i : Nat) : Int := stW (2 * i - 1)
theorem pl_all : ∀ i : Fin 8, 1 ≤ i.val → plW i = stW (2 * i.val) ∧ stF (2 * i.val + 1) = stF (2 * i.val - 1) + 2 * plW i ∧ stF (2 * i.val) = stF (2 * i.val - 1) + plW i ∧ 1 ≤ plW i ∧ plW i ≤ 9 ∧ 0 ≤ stF (2 * i.val - 1) ∧ stF (2 * i.val - 1) ≤ 64 := by decide

def PlAt (w : World) (B : Nat) : Prop := ∀ i, 1 ≤ i → i < 8 → w.cell? ⟨B, i, none⟩ = some (.int .i64 (plW i))
theorem plAt_new (w : World) (t : TypeId) : PlAt (w.alloc (.cells #[.int .i64 20, .int .i64 9, .int .i64 5, .int .i64 3, .int .i64 2, .int .i64 1, .int .i64 1, .int .i64 1] t)) w.heap.size := by
  intro i h1 h2
  rw [cell_of_row _ _ _ _ _ _ (heap_alloc_new w _)]
  match i, h1, h2 with
  | 1, _, _ => rfl
  | 2, _, _ => rfl
  | 3, _, _ => rfl
  | 4, _, _ => rfl
  | 5, _, _ => rfl
  | 6, _, _ => rfl
  | 7, _, _ => rfl

set_option maxRecDepth 20000 in
theorem place_any (v : Int) (w : World) (v0 : -7 ≤ v) (v1 : v ≤ 7) :
    Calls Tryd.prog 37 #[.int .i64 v] w fun e w' => e = .returned (.tuple #[.int .i64 (stF (stI v)), .int .i64 (stF (stI v) + stW (stI v))]) ∧ Below w.heap.size w w' := by
  by_cases hz : v = 0
  · subst hz
    go_enter Tryd.func37, Tryd.ntmps37
    go_wp2
    go_returns
    exact ⟨rfl, (Below.refl _ _).alloc (Nat.le_refl _) _⟩
  by_cases hv : v < 0
  · obtain ⟨k, hk⟩ : ∃ k : Nat, -v = k := ⟨(-v).toNat, by omega⟩
    have hk1 : 1 ≤ k := by omega
    have hk8 : k < 8 := by omega
    have hk8' : (k : Int) < 8 := by omega
    have hI : stI v = 2 * k := by unfold stI; rw [if_pos (by omega)]; omega
    have hb0 : ((k : Int) == 0) = false := by simp; omega
    rw [hI]
    clear hI
    go_enter Tryd.func37, Tryd.ntmps37
    go_wp2
    go_loopw [5, 7] (fun fv iv wr => ∃ j : Nat, 1 ≤ j ∧ j ≤ k ∧ fv = .int .i64 (stF (2 * j - 1)) ∧ iv = .int .i64 j ∧ Hid (PlAt wr w.heap.size) ∧ Hid (Below w.heap.size w wr)) (fun _ iv _ => k - (intOf iv).toNat)
    case atStart => exact ⟨1, by omega, by omega, rfl, rfl, plAt_new _ _, (Below.refl _ _).alloc (Nat.le_refl _) _⟩
    case round =>
      obtain ⟨j, hj1, hj, rfl, rfl, HP, HB⟩ := hrel
      have hA := pl_all ⟨j, by omega⟩ hj1
      simp only at hA
      have hj8 : (j : Int) < 8 := by omega
      have c := HP.out j hj1 (by omega)
      by_cases hlt : j < k
      · have hlt' : (j : Int) < k := by omega
        have HN : Hid (stF (2 * (j + 1) - 1) = stF (2 * j - 1) + 2 * plW j) := hA.2.1
        obtain ⟨-, -, -, a1, a2, a3, a4⟩ := hA
        generalize plW j = pw at *
        generalize stF (2 * j - 1) = sf at *
        go_wp2
        go_roundw
        case rel => exact ⟨j + 1, by omega, by omega, by rw [HN.out], by go_num, HP, HB⟩
        case measure => simp [intOf]; omega
      · obtain rfl : j = k := by omega
        clear hlt
        have HN : Hid (stF (2 * j) = stF (2 * j - 1) + plW j ∧ stW (2 * j) = plW j) := ⟨hA.2.2.1, hA.1.symm⟩
        obtain ⟨-, -, -, a1, a2, a3, a4⟩ := hA
        obtain ⟨pw, hpw⟩ : ∃ pw, plW j = pw := ⟨_, rfl⟩
        obtain ⟨sf, hsf⟩ : ∃ sf, stF (2 * j - 1) = sf := ⟨_, rfl⟩
        rw [hpw] at a1 a2 HN c
        rw [hsf] at a3 a4 HN
        rw [hsf]
        clear hpw hsf
        go_wp2
        go_region
        go_wp2
        go_returns
        exact ⟨by rw [HN.out.1, HN.out.2]; rfl, by repeat (first | exact HB.out | refine Below.drew ?_)⟩
  · obtain ⟨k, rfl⟩ : ∃ k : Nat, v = k := ⟨v.toNat, by omega⟩
    have hk1 : 1 ≤ k := by omega
    have hk8 : k < 8 := by omega
    have hk8' : (k : Int) < 8 := by omega
    have hI : stI k = 2 * k - 1 := by unfold stI; rw [if_neg (by omega)]; omega
    have hb0 : ((k : Int) == 0) = false := by simp; omega
    rw [hI]
    clear hI
    go_enter Tryd.func37, Tryd.ntmps37
    go_wp2
    go_loopw [5, 7] (fun fv iv wr => ∃ j : Nat, 1 ≤ j ∧ j ≤ k ∧ fv = .int .i64 (stF (2 * j - 1)) ∧ iv = .int .i64 j ∧ Hid (PlAt wr w.heap.size) ∧ Hid (Below w.heap.size w wr)) (fun _ iv _ => k - (intOf iv).toNat)
    case atStart => exact ⟨1, by omega, by omega, rfl, rfl, plAt_new _ _, (Below.refl _ _).alloc (Nat.le_refl _) _⟩
    case round =>
      obtain ⟨j, hj1, hj, rfl, rfl, HP, HB⟩ := hrel
      have hA := pl_all ⟨j, by omega⟩ hj1
      simp only at hA
      have hj8 : (j : Int) < 8 := by omega
      have c := HP.out j hj1 (by omega)
      by_cases hlt : j < k
      · have hlt' : (j : Int) < k := by omega
        have HN : Hid (stF (2 * (j + 1) - 1) = stF (2 * j - 1) + 2 * plW j) := hA.2.1
        obtain ⟨-, -, -, a1, a2, a3, a4⟩ := hA
        generalize plW j = pw at *
        generalize stF (2 * j - 1) = sf at *
        go_wp2
        go_roundw
        case rel => exact ⟨j + 1, by omega, by omega, by rw [HN.out], by go_num, HP, HB⟩
        case measure => simp [intOf]; omega
      · obtain rfl : j = k := by omega
        clear hlt
        have HN : Hid (stW (2 * j - 1) = plW j) := rfl
        obtain ⟨-, -, -, a1, a2, a3, a4⟩ := hA
        obtain ⟨pw, hpw⟩ : ∃ pw, plW j = pw := ⟨_, rfl⟩
        obtain ⟨sf, hsf⟩ : ∃ sf, stF (2 * j - 1) = sf := ⟨_, rfl⟩
        rw [hpw] at a1 a2 HN c
        rw [hsf] at a3 a4
        rw [hsf]
        have HSF : Hid _ := hsf
        clear hpw hsf
        go_wp2
        go_region
        go_wp2
        go_returns
        exact ⟨by rw [HSF.out, HN.out]; rfl, by repeat (first | exact HB.out | refine Below.drew ?_)⟩

theorem rputstep (w : World) (B b z : Nat) (m : Mo) (v : Int) (hn : m.nD ≤ 600000) (hk : m.nR ≤ 600000) (v0 : -7 ≤ v) (v1 : v ≤ 7) (hB : B ≤ w.heap.size) (hg : Hid m.Good) (hw : Hid (RfAt w B b z m)) :
    Calls Tryd.prog 24 #[.pointer (some ⟨b, 0, none⟩), .int .i64 v] w fun e w' => e = .returned (.tuple #[]) ∧ RfAt w' B b z (m.step v) ∧ Below B w w' := by
  have HM : Hid (May (stF (stI v)) (stF (stI v) + stW (stI v)) 64) := stI_may v0 v1
  have HE : Hid (m.step v = m.put (stF (stI v)) (stF (stI v) + stW (stI v)) 64) := rfl
  obtain ⟨x, hx⟩ : ∃ x, stF (stI v) = x := ⟨_, rfl⟩
  obtain ⟨y, hy⟩ : ∃ y, x + stW (stI v) = y := ⟨_, rfl⟩
  have HX : Hid _ := hx
  have HY : Hid _ := hy
  rw [hx, hy] at HM HE
  clear hx hy
  go_enter Tryd.func24, Tryd.ntmps24
  go_wp2_with (first
    | (go_at_call 37; refine (place_any v _ v0 v1).mono ?_; rw [HX.out, HY.out]; rintro e w1 ⟨rfl, HB1⟩; replace HB1 : Hid (Below w.heap.size w w1) := HB1)
    | (go_at_call 45; refine (rput_any _ B b z m x y 64 hn hk hg HM (RfAt.kept (row := none) hw.out (grown_below HB1.out none) (by intro q e; cases e))).mono ?_; rintro e w2 ⟨rfl, HW2, HB2⟩; replace HW2 : Hid (RfAt w2 B b z (m.put x y 64)) := HW2; replace HB2 : Hid (Below B w1 w2) := HB2))
  go_returns
  exact ⟨rfl, by rw [HE.out]; exact HW2.out, (HB1.out.mono hB).trans HB2.out⟩

theorem Sp.pow_bd {t q : Int} {s : Nat} (h : Sp t q s) : (1 : Int) ≤ 2 ^ s ∧ (2 : Int) ^ s ≤ 65536 := by
  have p := pow_pos' s
  have := pow_le' h.s2
  have : (2 : Int) ^ 16 = 65536 := by decide
  omega

set_option maxRecDepth 20000 in
theorem rputuint (w : World) (B b z : Nat) (m : Mo) (v t q : Int) (s : Nat) (hn : m.nD ≤ 500000) (hk : m.nR ≤ 500000) (v0 : 0 ≤ v) (v1 : v < t) (hg : Hid m.Good) (hs : Hid (Sp t q s)) (hw : Hid (RfAt w B b z m)) :
    Calls Tryd.prog 26 #[.pointer (some ⟨b, 0, none⟩), .int .i64 v, .int .i64 t] w fun e w' => e = .returned (.tuple #[]) ∧ RfAt w' B b z (m.num v q s) ∧ Below B w w' := by
  have t2 := hs.out.t2
  have s2 := hs.out.s2
  have qb := hs.out.q_bd
  have vb := hs.out.v_bd v0 v1
  have pb := hs.out.pow_bd
  have HM : Hid (May (v / 2 ^ s) (v / 2 ^ s + 1) q) := hs.out.may v0 v1
  have hn1 := put_nD m (v / 2 ^ s) (v / 2 ^ s + 1) q
  have hn2 := (put_nR m (v / 2 ^ s) (v / 2 ^ s + 1) q).1
  have HE : Hid (m.num v q s = Mo.raw s (v % 2 ^ s) (m.put (v / 2 ^ s) (v / 2 ^ s + 1) q)) := rfl
  have e1 : v.tdiv (2 ^ s) = v / 2 ^ s := Int.tdiv_eq_ediv_of_nonneg v0
  have e2 : v.tmod (2 ^ s) = v % 2 ^ s := Int.tmod_eq_emod_of_nonneg v0
  have r0 : 0 ≤ v % 2 ^ s := Int.emod_nonneg _ (by omega)
  have r1 : v % 2 ^ s < 2 ^ s := Int.emod_lt_of_pos _ (by omega)
  have HPA : Hid (∀ w, Calls Tryd.prog 42 #[.int .i64 t] w fun e w' => e = .returned (.tuple #[.int .i64 q, .int .i64 (2 ^ s), .int .i64 s]) ∧ w' = w) := fun w => parts_any9 t q s w hs
  obtain ⟨P, hP⟩ : ∃ P, (2 : Int) ^ s = P := ⟨_, rfl⟩
  rw [hP] at vb pb HM hn1 hn2 HE e1 e2 r0 r1 HPA
  obtain ⟨u, hu⟩ : ∃ u, v / P = u := ⟨_, rfl⟩
  obtain ⟨y, hy⟩ : ∃ y, v % P = y := ⟨_, rfl⟩
  rw [hu] at HM hn1 hn2 vb HE e1
  rw [hy] at r0 r1 HE e2
  have nm2 : (m.put u (u + 1) q).nD ≤ 600000 := by omega
  have nk2 : (m.put u (u + 1) q).nR ≤ 600000 := by omega
  have y1 : y < 4294967296 := by omega
  have p3 : ¬ P = 0 := by omega
  have nm : m.nD ≤ 600000 := by omega
  have nk : m.nR ≤ 600000 := by omega
  have u0 : 0 ≤ u := vb.1
  have u1 : u ≤ 255 := by omega
  have u2 : IntKind.i64.wrap (u + 1) = u + 1 := wrap_i64 (by omega) (by omega)
  have u3 : IntKind.i64.wrap u = u := wrap_i64 (by omega) (by omega)
  obtain ⟨pb1, pb2⟩ := pb
  obtain ⟨qb1, qb2⟩ := qb
  have y2 : IntKind.i64.wrap y = y := wrap_i64 (by omega) (by omega)
  clear vb
  clear hP hu hy hn1 hn2
  go_enter Tryd.func26, Tryd.ntmps26
  go_wp2_with (go_at_call 42; refine (HPA.out _).mono ?_; rintro e w1 ⟨rfl, rfl⟩)
  go_region_with (go_at_call 45; refine (rput_any _ B b z m u (u + 1) q nm nk hg HM (by exact RfAt.kept (row := none) hw.out (by repeat (first | (with_reducible exact grown_refl _ none) | (with_reducible refine grown_alloc ?_ _) | (with_reducible refine grown_drew ?_))) (by intro q e; cases e))).mono ?_; rintro e w2 ⟨rfl, HW2, HB2⟩; replace HW2 : Hid (RfAt w2 B b z (m.put u (u + 1) q)) := HW2; replace HB2 : Hid (Below B w1.drew w2) := HB2)
  all_goals (
    go_wp2_with (go_at_call 47; refine (rraw_any _ B b z (m.put u (u + 1) q) y s s2 nm2 nk2 r0 y1 (by exact HW2)).mono ?_; rintro e w3 ⟨rfl, HW3, HB3⟩; replace HW3 : Hid (RfAt w3 B b z (Mo.raw s y (m.put u (u + 1) q))) := HW3; replace HB3 : Hid (Below B w2 w3) := HB3)
    go_returns
    exact ⟨rfl, by rw [HE.out]; exact HW3.out, (Below.trans ((Below.refl _ _).drew) HB2.out).trans HB3.out⟩)

end Go.Proofs.YtohgbdhackmooaaDoor
