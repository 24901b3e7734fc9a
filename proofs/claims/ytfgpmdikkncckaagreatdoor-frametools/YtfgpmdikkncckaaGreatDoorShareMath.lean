/-
  Pulses shared out by halves, on whole numbers: how many pulses of each band stand up to a place, the place behind which none stands, and that what is paid for up to a place, and not up to the next one, is what a budget comes to. No condition; no program.
-/
import Derived.Test.YtfgpmdikkncckaaGreatDoorAllocMath
namespace Go.Proofs.YtfgpmdikkncckaaGreatDoor
set_option linter.unusedVariables false

/-- How many pulses of a band stand up to a place. -/
def uI (t a : Int) (i : Nat) : Int := min (max (a - i) 0 / (5 * aSl t i)) (capB i)
def uTo (B : Nat) (t a : Int) (i : Nat) : Int := if i < B then uI t a i else 0
/-- The place behind which no pulse of the first bands stands. -/
def pLast (t : Int) : Nat → Int
  | 0 => 0
  | n + 1 => max (pLast t n) (5 * (capB n * aSl t n) + n)

theorem sl5 (t : Int) {i : Nat} (h : i < 5) : 0 < 5 * aSl t i := by have := sl_bd t h; omega
theorem u_pos (t a : Int) {i : Nat} (h : i < 5) : 0 ≤ uI t a i := by
  have h1 := sl5 t h
  have h2 := capB_bd h
  have h3 : 0 ≤ max (a - i) 0 / (5 * aSl t i) := Int.ediv_nonneg (by omega) (by omega)
  unfold uI
  generalize max (a - i) 0 / (5 * aSl t i) = q at *
  omega
theorem u_cap (t a : Int) {i : Nat} (h : i < 5) : uI t a i ≤ capB i := by unfold uI; omega
theorem u_ge (t a : Int) {i : Nat} (h : i < 5) {x : Int} (hx : 1 ≤ x) : x ≤ uI t a i ↔ x ≤ capB i ∧ 5 * (x * aSl t i) + i ≤ a := by
  have h1 := sl5 t h
  have h2 := Int.le_ediv_iff_mul_le (a := x) (b := max (a - i) 0) h1
  have h3 : x * (5 * aSl t i) = 5 * (x * aSl t i) := Int.mul_left_comm _ _ _
  have h4 : 1 * aSl t i ≤ x * aSl t i := Int.mul_le_mul_of_nonneg_right hx (by omega)
  unfold uI
  rw [h3] at h2
  generalize max (a - i) 0 / (5 * aSl t i) = q at *
  generalize x * aSl t i = y at *
  constructor
  · intro h5
    have := h2.1 (by omega)
    omega
  · intro h5
    have := h2.2 (by omega)
    omega
/-- A place more: nothing turns, or the one pulse that stands there is there, too. -/
theorem u_step (t : Int) {a : Int} {i : Nat} (h : i < 5) : uI t (a + 1) i = uI t a i ∨ (uI t (a + 1) i = uI t a i + 1 ∧ 5 * ((uI t a i + 1) * aSl t i) + i = a + 1 ∧ uI t a i < capB i) := by
  have h0 := u_pos t a h
  have h0' := u_pos t (a + 1) h
  have hs := sl5 t h
  have mono : uI t a i ≤ uI t (a + 1) i := by
    by_cases hz : uI t a i = 0
    · omega
    · have := (u_ge t a h (x := uI t a i) (by omega)).1 (Int.le_refl _)
      exact (u_ge t (a + 1) h (by omega)).2 ⟨this.1, by omega⟩
  by_cases he : uI t (a + 1) i = uI t a i
  · exact .inl he
  · right
    have hlt : uI t a i + 1 ≤ uI t (a + 1) i := by omega
    have g1 := (u_ge t (a + 1) h (x := uI t (a + 1) i) (by omega)).1 (Int.le_refl _)
    have g2 := (u_ge t (a + 1) h (x := uI t a i + 1) (by omega)).1 hlt
    have g3 : ¬ (uI t a i + 1 ≤ uI t a i) := by omega
    rw [u_ge t a h (by omega)] at g3
    have g4 : ¬ (uI t a i + 2 ≤ uI t (a + 1) i) := by
      intro hx
      have := (u_ge t (a + 1) h (x := uI t a i + 2) (by omega)).1 hx
      have e : (uI t a i + 2) * aSl t i = (uI t a i + 1) * aSl t i + aSl t i := by
        rw [show uI t a i + 2 = (uI t a i + 1) + 1 by omega, Int.add_mul (uI t a i + 1), Int.one_mul]
      omega
    exact ⟨by omega, by omega, by omega⟩
theorem to_in {B : Nat} (t a : Int) {i : Nat} (h : i < B) : uTo B t a i = uI t a i := if_pos h
theorem to_out {B : Nat} (t a : Int) {i : Nat} (h : ¬ i < B) : uTo B t a i = 0 := if_neg h
theorem to_fit {B : Nat} (hB : B ≤ 5) (t a : Int) : Fit B (uTo B t a) :=
  ⟨fun i => by
    by_cases h : i < B
    · rw [to_in t a h]; exact u_pos t a (by omega)
    · rw [to_out t a h]; exact Int.le_refl _, fun i hi => by rw [to_in t a hi]; exact u_cap t a (by omega), fun i hi => to_out t a (by omega)⟩
theorem to_zero {B : Nat} (hB : B ≤ 5) (t : Int) : uTo B t 0 = fun _ => 0 := by
  funext i
  by_cases h : i < B
  · rw [to_in t 0 h]
    have h0 := u_pos t 0 (i := i) (by omega)
    by_cases e : uI t 0 i = 0
    · exact e
    · have := (u_ge t 0 (i := i) (by omega) (x := 1) (by omega)).1 (by omega)
      have := sl5 t (i := i) (by omega)
      omega
  · exact to_out t 0 h
theorem to_step {B : Nat} (hB : B ≤ 5) (t a : Int) : uTo B t (a + 1) = uTo B t a ∨ ∃ i, i < B ∧ uTo B t (a + 1) = aMore (uTo B t a) i ∧ aNx t capB (uTo B t a) B = some i := by
  by_cases h : ∃ i, i < B ∧ uI t (a + 1) i ≠ uI t a i
  · obtain ⟨i, hi, hne⟩ := h
    right
    obtain ⟨e1, e2, e3⟩ := (u_step t (a := a) (i := i) (by omega)).resolve_left hne
    refine ⟨i, hi, ?_, ?_⟩
    · funext j
      by_cases ej : j = i
      · subst ej
        rw [more_same, to_in _ _ hi, to_in _ _ hi, e1]
      · rw [more_other _ ej]
        by_cases hj : j < B
        · rw [to_in _ _ hj, to_in _ _ hj]
          rcases u_step t (a := a) (i := j) (by omega) with f | ⟨_, f2, _⟩
          · exact f
          · exact absurd (show j = i by omega) ej
        · rw [to_out _ _ hj, to_out _ _ hj]
    · refine nx_only hi (by rw [to_in _ _ hi]; exact e3) fun j hj hc => ?_
      unfold aLev
      rw [to_in _ _ hj] at hc
      rw [to_in _ _ hj, to_in _ _ hi]
      have g3 : ¬ (uI t a j + 1 ≤ uI t a j) := by omega
      have p := u_pos t a (i := j) (by omega)
      rw [u_ge t a (by omega) (by omega)] at g3
      generalize (uI t a j + 1) * aSl t j = y at *
      generalize (uI t a i + 1) * aSl t i = x at *
      exact ⟨by omega, fun _ => by omega⟩
  · left
    funext j
    by_cases hj : j < B
    · rw [to_in _ _ hj, to_in _ _ hj]
      by_cases e : uI t (a + 1) j = uI t a j
      · exact e
      · exact absurd ⟨j, hj, e⟩ h
    · rw [to_out _ _ hj, to_out _ _ hj]
/-- Up to each place the pulses are so many of the first ones in the order in which they are given. -/
theorem to_K {B : Nat} (hB : B ≤ 5) (t : Int) : ∀ a : Nat, ∃ j, uTo B t a = aK B t j
  | 0 => ⟨0, to_zero hB t⟩
  | a + 1 => by
    obtain ⟨j, hj⟩ := to_K hB t a
    rcases to_step hB t a with e | ⟨i, hi, e, hx⟩
    · exact ⟨j, by rw [← hj, ← e]; rfl⟩
    · refine ⟨j + 1, ?_⟩
      rw [hj] at hx e
      rw [K_next hx, ← e]; rfl
theorem last_ge (t : Int) {n i : Nat} (h : i < n) : 5 * (capB i * aSl t i) + i ≤ pLast t n := by
  induction n with
  | zero => omega
  | succ n ih =>
    rw [pLast]
    by_cases e : i = n
    · subst e; omega
    · have := ih (by omega); omega
theorem last_bd (t : Int) : ∀ {n : Nat}, n ≤ 5 → 0 ≤ pLast t n ∧ pLast t n ≤ 6404
  | 0, _ => by simp [pLast]
  | n + 1, h => by
    have := last_bd t (n := n) (by omega)
    rw [pLast]
    obtain ⟨a, b⟩ := sl_bd t (i := n) (by omega)
    obtain ⟨c, d⟩ := capB_bd (i := n) (by omega)
    have h2 : capB n * aSl t n ≤ capB n * 40 := Int.mul_le_mul_of_nonneg_left b (by omega)
    have h3 : 0 ≤ capB n * aSl t n := Int.mul_nonneg (by omega) (by omega)
    omega
theorem to_last {B : Nat} (hB : B ≤ 5) (t : Int) {i : Nat} (h : i < B) : uTo B t (pLast t B) i = capB i := by
  rw [to_in _ _ h]
  have h1 := capB_bd (i := i) (by omega)
  have h2 := u_cap t (pLast t B) (i := i) (by omega)
  have := (u_ge t (pLast t B) (i := i) (by omega) (x := capB i) (by omega)).2 ⟨Int.le_refl _, last_ge t h⟩
  omega
theorem pr_next {B : Nat} (hB : B ≤ 5) {k : Nat → Int} (hf : Fit B k) {i : Nat} (hi : i < B) (hc : k i < capB i) : aPr k B ≤ aPr (aMore k i) B := by
  rw [pr_more, if_pos hi]
  have := btB_rise (i := i) (by omega) (hf.pos i) hc
  omega
/-- What is paid for up to a place, and not up to the next one, is what a budget comes to. -/
theorem share_out {B : Nat} (hB : B ≤ 5) {c t n : Int} (hc : 1 ≤ c) (a : Nat) (h1 : a = 0 ∨ c * aPr (uTo B t a) B ≤ n) (h2 : (a : Int) = pLast t B ∨ n < c * aPr (uTo B t (a + 1)) B) : Out B c t n (uTo B t a) := by
  have hf := to_fit hB t a
  have hJ : ∃ j, uTo B t a = aK B t j ∧ (j = 0 ∨ c * aPr (uTo B t a) B ≤ n) := by
    rcases h1 with rfl | h1
    · exact ⟨0, to_zero hB t, .inl rfl⟩
    · obtain ⟨j, hj⟩ := to_K hB t a
      exact ⟨j, hj, .inr h1⟩
  obtain ⟨j, e, hj⟩ := hJ
  refine ⟨j, e, hj, fun i hx => ?_⟩
  obtain ⟨x1, x2, _⟩ := nx_some hx
  have hp := mul_chans hc (pr_next hB hf x1 x2)
  rcases h2 with h2 | h2
  · rw [h2, to_last hB t x1] at x2
    omega
  · rcases to_step hB t a with e1 | ⟨i', _, e1, hx'⟩
    · rw [e1] at h2
      omega
    · rw [hx] at hx'
      cases hx'
      rw [e1] at h2
      exact h2
end Go.Proofs.YtfgpmdikkncckaaGreatDoor
