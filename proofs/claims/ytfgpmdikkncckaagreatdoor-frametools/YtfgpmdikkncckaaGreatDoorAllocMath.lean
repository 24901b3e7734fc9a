/-
  Pulses shared out to bands, on whole numbers: slopes, levels, the band that is next, what pulses cost, the order in which pulses are given, and what a budget comes to. No condition; no program.
-/
import Derived.Test.YtfgpmdikkncckaaGreatDoorCostMath
import Derived.Test.YtfgpmdikkncckaaGreatDoorModeMath
namespace Go.Proofs.YtfgpmdikkncckaaGreatDoor
set_option linter.unusedVariables false

def aHel (t : Int) : Int := max 0 (min t 7)
def aSl (t : Int) (i : Nat) : Int := 64 / widF i + (8 - aHel t) * i
def capB (i : Nat) : Int := capI (widF i)
def aLev (t : Int) (k : Nat → Int) (i : Nat) : Int := (k i + 1) * aSl t i
/-- The band whose next pulse has the least level, of the first ones. -/
def aNx (t : Int) (cp k : Nat → Int) : Nat → Option Nat
  | 0 => none
  | n + 1 => match aNx t cp k n with
    | none => if k n < cp n then some n else none
    | some j => if k n < cp n ∧ aLev t k n < aLev t k j then some n else some j
def aMore (k : Nat → Int) (j : Nat) : Nat → Int := fun i => if i = j then k i + 1 else k i
def aStep (B : Nat) (t : Int) (k : Nat → Int) : Nat → Int := match aNx t capB k B with
  | none => k
  | some j => aMore k j
/-- The pulses in the order in which they are given. -/
def aK (B : Nat) (t : Int) : Nat → Nat → Int
  | 0 => fun _ => 0
  | n + 1 => aStep B t (aK B t n)
/-- What pulses of the first bands cost. -/
def aPr (k : Nat → Int) : Nat → Int
  | 0 => 0
  | n + 1 => aPr k n + btI (widF n) (k n)
/-- What a budget comes to. -/
def Out (B : Nat) (c t n : Int) (R : Nat → Int) : Prop := ∃ j, R = aK B t j ∧ (j = 0 ∨ c * aPr R B ≤ n) ∧ ∀ i, aNx t capB R B = some i → n < c * aPr (aMore R i) B
structure Fit (B : Nat) (k : Nat → Int) : Prop where
  pos : ∀ i, 0 ≤ k i
  cap : ∀ i, i < B → k i ≤ capB i
  out : ∀ i, B ≤ i → k i = 0

theorem hel_bd (t : Int) : 0 ≤ aHel t ∧ aHel t ≤ 7 := by unfold aHel; omega
theorem sl_bd (t : Int) {i : Nat} (h : i < 5) : 1 ≤ aSl t i ∧ aSl t i ≤ 40 := by
  have := hel_bd t
  unfold aSl
  match i, h with
  | 0, _ => simp [widF, widT]
  | 1, _ => simp [widF, widT]; omega
  | 2, _ => simp [widF, widT]; omega
  | 3, _ => simp [widF, widT]; omega
  | 4, _ => simp [widF, widT]; omega
theorem wid_nat {i : Nat} (h : i < 5) : ∃ m : Nat, widF i = m ∧ 2 ≤ m ∧ m ≤ 16 := by
  have := wid_bd h
  exact ⟨(widF i).toNat, by omega, by omega, by omega⟩
theorem capB_bd {i : Nat} (h : i < 5) : 1 ≤ capB i ∧ capB i ≤ 32 := by
  obtain ⟨m, hm, h1, h2⟩ := wid_nat h
  unfold capB
  rw [hm, capI_nat (by omega) h2]
  have := cap_bd h2
  omega
theorem btI_bd (n k : Int) : -1 ≤ btI n k ∧ btI n k ≤ 41 := by
  unfold btI
  split
  · rename_i h
    have hc := (cap_bd (n := n.toNat) (by omega)).1
    have := bt_bd (n := n.toNat) (k := k.toNat) (by omega) (by omega)
    omega
  · omega
/-- Pulses that there may be cost something, and more of them no less. -/
theorem btB {i : Nat} (h : i < 5) {x : Int} (h0 : 0 ≤ x) (h1 : x ≤ capB i) : 0 ≤ btI (widF i) x ∧ btI (widF i) x ≤ 41 := by
  refine ⟨?_, (btI_bd _ _).2⟩
  obtain ⟨m, hm, a, b⟩ := wid_nat h
  unfold capB at h1
  obtain ⟨y, rfl⟩ : ∃ y : Nat, x = y := ⟨x.toNat, by omega⟩
  rw [hm, capI_nat (by omega) b] at h1
  rw [hm, btI_nat (by omega) b (by omega)]
  omega
theorem btI_not {i : Nat} (h : i < 5) {x : Int} (h0 : ¬ (0 ≤ x ∧ x ≤ capB i)) : btI (widF i) x = -1 := by
  obtain ⟨m, hm, a, b⟩ := wid_nat h
  unfold capB at h0
  rw [hm, capI_nat (by omega) b] at h0
  rw [hm]
  by_cases hx : x < 0
  · exact btI_low _ hx
  · exact btI_over (by omega)
theorem btB_rise {i : Nat} (h : i < 5) {x : Int} (h0 : 0 ≤ x) (h1 : x < capB i) : btI (widF i) x ≤ btI (widF i) (x + 1) := by
  obtain ⟨m, hm, a, b⟩ := wid_nat h
  unfold capB at h1
  obtain ⟨y, rfl⟩ : ∃ y : Nat, x = y := ⟨x.toNat, by omega⟩
  rw [hm, capI_nat (by omega) b] at h1
  rw [hm, show (y : Int) + 1 = ((y + 1 : Nat) : Int) by omega, btI_nat (by omega) b (by omega), btI_nat (by omega) b (by omega)]
  have := (rise_is (n := m) (k := y) (by omega) b (by omega)).1
  omega

theorem nx_some {t : Int} {cp k : Nat → Int} : ∀ {n j : Nat}, aNx t cp k n = some j → j < n ∧ k j < cp j ∧ ∀ i, i < n → k i < cp i → aLev t k j ≤ aLev t k i ∧ (i < j → aLev t k j < aLev t k i)
  | 0, j, h => by simp [aNx] at h
  | n + 1, j, h => by
    rw [aNx] at h
    have hs := @nx_some t cp k n
    have hz : aNx t cp k n = none → ∀ i, i < n → ¬ k i < cp i := nx_none'
    split at h
    · rename_i e
      split at h
      · rename_i hk
        simp at h; subst h
        refine ⟨by omega, hk, fun i hi hc => ?_⟩
        by_cases e' : i = n
        · subst e'; exact ⟨Int.le_refl _, fun h => by omega⟩
        · exact absurd hc (hz e i (by omega))
      · simp at h
    · rename_i j0 e
      obtain ⟨a, b, c⟩ := hs e
      split at h
      · rename_i hk
        simp at h; subst h
        refine ⟨by omega, hk.1, fun i hi hc => ?_⟩
        by_cases e' : i = n
        · subst e'; exact ⟨Int.le_refl _, fun h => by omega⟩
        · have := c i (by omega) hc
          exact ⟨by omega, fun _ => by omega⟩
      · rename_i hk
        simp at h; subst h
        refine ⟨by omega, b, fun i hi hc => ?_⟩
        by_cases e' : i = n
        · subst e'; exact ⟨by omega, fun h => by omega⟩
        · exact c i (by omega) hc
where
  nx_none' {t : Int} {cp k : Nat → Int} : ∀ {n : Nat}, aNx t cp k n = none → ∀ i, i < n → ¬ k i < cp i
  | 0, _, i, hi => by omega
  | n + 1, h, i, hi => by
    rw [aNx] at h
    split at h
    · rename_i e
      split at h
      · simp at h
      · rename_i hk
        by_cases e' : i = n
        · subst e'; exact hk
        · exact nx_none' e i (by omega)
    · split at h <;> simp at h
theorem nx_none {t : Int} {cp k : Nat → Int} {n : Nat} (h : aNx t cp k n = none) : ∀ i, i < n → ¬ k i < cp i := nx_some.nx_none' h
theorem nx_only {t : Int} {cp k : Nat → Int} {n j : Nat} (hj : j < n) (hk : k j < cp j) (h : ∀ i, i < n → k i < cp i → aLev t k j ≤ aLev t k i ∧ (i < j → aLev t k j < aLev t k i)) : aNx t cp k n = some j := by
  cases e : aNx t cp k n with
  | none => exact absurd hk (nx_none e j hj)
  | some i =>
    obtain ⟨a, b, c⟩ := nx_some e
    have h1 := h i a b
    have h2 := c j hj hk
    have : i = j := by
      by_cases x : i < j
      · have := h1.2 x; omega
      · by_cases y : j < i
        · have := h2.2 y; omega
        · omega
    rw [this]

theorem more_same (k : Nat → Int) (j : Nat) : aMore k j j = k j + 1 := if_pos rfl
theorem more_other (k : Nat → Int) {i j : Nat} (h : i ≠ j) : aMore k j i = k i := if_neg h
theorem Fit.zero (B : Nat) (hB : B ≤ 5) : Fit B (fun _ => 0) := ⟨fun _ => Int.le_refl _, fun i hi => by have := capB_bd (i := i) (by omega); show (0 : Int) ≤ _; omega, fun _ _ => rfl⟩
theorem Fit.more {B : Nat} {k : Nat → Int} (h : Fit B k) {j : Nat} (hj : j < B) (hk : k j < capB j) : Fit B (aMore k j) := by
  refine ⟨fun i => ?_, fun i hi => ?_, fun i hi => ?_⟩
  · have := h.pos i
    by_cases e : i = j
    · subst e; rw [more_same]; omega
    · rw [more_other _ e]; exact this
  · by_cases e : i = j
    · subst e; rw [more_same]; omega
    · rw [more_other _ e]; exact h.cap i hi
  · rw [more_other _ (by omega)]; exact h.out i hi
theorem fit_K {B : Nat} (hB : B ≤ 5) (t : Int) : ∀ n, Fit B (aK B t n)
  | 0 => Fit.zero B hB
  | n + 1 => by
    have h := fit_K hB t n
    show Fit B (aStep B t (aK B t n))
    unfold aStep
    split
    · exact h
    · rename_i j e
      obtain ⟨a, b, _⟩ := nx_some e
      exact h.more a b
theorem K_next {B : Nat} {t : Int} {n j : Nat} (h : aNx t capB (aK B t n) B = some j) : aK B t (n + 1) = aMore (aK B t n) j := by
  show aStep B t (aK B t n) = _
  unfold aStep; rw [h]
theorem K_end {B : Nat} {t : Int} {n : Nat} (h : aNx t capB (aK B t n) B = none) : ∀ m, aK B t (n + m) = aK B t n
  | 0 => rfl
  | m + 1 => by
    have := K_end h m
    show aStep B t (aK B t (n + m)) = _
    rw [this]
    unfold aStep; rw [h]
theorem pr_more {k : Nat → Int} {j : Nat} : ∀ {B : Nat}, aPr (aMore k j) B = aPr k B + (if j < B then btI (widF j) (k j + 1) - btI (widF j) (k j) else 0)
  | 0 => by simp [aPr]
  | B + 1 => by
    rw [aPr, aPr, pr_more (B := B)]
    by_cases e : B = j
    · subst e
      rw [more_same, if_neg (by omega), if_pos (by omega)]; omega
    · rw [more_other _ e]
      by_cases h : j < B
      · rw [if_pos h, if_pos (by omega)]; omega
      · rw [if_neg h, if_neg (by omega)]; omega
theorem pr_bd {k : Nat → Int} : ∀ (B : Nat), -B ≤ aPr k B ∧ aPr k B ≤ 41 * B
  | 0 => by simp [aPr]
  | B + 1 => by
    have := pr_bd (k := k) B
    have := btI_bd (widF B) (k B)
    rw [aPr]
    omega
theorem pr_zero {k : Nat → Int} : ∀ {B : Nat}, B ≤ 5 → (∀ i, i < B → k i = 0) → aPr k B = 0
  | 0, _, _ => rfl
  | B + 1, hB, h => by
    rw [aPr, pr_zero (by omega) (fun i hi => h i (by omega)), h B (by omega)]
    obtain ⟨m, hm, a, b⟩ := wid_nat (i := B) (by omega)
    rw [hm, show (0 : Int) = ((0 : Nat) : Int) from rfl, btI_nat (by omega) b (by omega), (cap_bd b).2.1]
    rfl
theorem pr_pos {B : Nat} (hB : B ≤ 5) {k : Nat → Int} (h : Fit B k) : ∀ n, n ≤ B → 0 ≤ aPr k n
  | 0, _ => Int.le_refl _
  | n + 1, hn => by
    rw [aPr]
    have := pr_pos hB h n (by omega)
    have := (btB (i := n) (by omega) (h.pos n) (h.cap n (by omega))).1
    omega
theorem pr_step {B : Nat} (hB : B ≤ 5) (t : Int) (n : Nat) : aPr (aK B t n) B ≤ aPr (aK B t (n + 1)) B := by
  cases e : aNx t capB (aK B t n) B with
  | none => rw [K_end e 1]; exact Int.le_refl _
  | some j =>
    obtain ⟨a, b, _⟩ := nx_some e
    rw [K_next e, pr_more, if_pos a]
    have := btB_rise (i := j) (by omega) ((fit_K hB t n).pos j) b
    omega
theorem pr_mono {B : Nat} (hB : B ≤ 5) (t : Int) {n : Nat} : ∀ {m : Nat}, n ≤ m → aPr (aK B t n) B ≤ aPr (aK B t m) B
  | 0, h => by obtain rfl : n = 0 := by omega
               exact Int.le_refl _
  | m + 1, h => by
    by_cases e : n = m + 1
    · rw [e]; exact Int.le_refl _
    · exact Int.le_trans (pr_mono hB t (m := m) (by omega)) (pr_step hB t m)
theorem K_step (B : Nat) (t : Int) (n i : Nat) : aK B t n i ≤ aK B t (n + 1) i := by
  cases e : aNx t capB (aK B t n) B with
  | none => rw [K_end e 1]; exact Int.le_refl _
  | some j =>
    rw [K_next e]
    by_cases x : i = j
    · subst x; rw [more_same]; omega
    · rw [more_other _ x]; exact Int.le_refl _
theorem K_mono (B : Nat) (t : Int) (i : Nat) {n : Nat} : ∀ {m : Nat}, n ≤ m → aK B t n i ≤ aK B t m i
  | 0, h => by obtain rfl : n = 0 := by omega
               exact Int.le_refl _
  | m + 1, h => by
    by_cases e : n = m + 1
    · rw [e]; exact Int.le_refl _
    · exact Int.le_trans (K_mono B t i (m := m) (by omega)) (K_step B t m i)
theorem mul_chans {c x y : Int} (hc : 1 ≤ c) (h : x ≤ y) : c * x ≤ c * y := Int.mul_le_mul_of_nonneg_left h (by omega)
/-- With more to share out no band gets less. -/
theorem out_more {B : Nat} (hB : B ≤ 5) {c t n n' : Int} (hc : 1 ≤ c) (hn : n ≤ n') {R R' : Nat → Int} (h : Out B c t n R) (h' : Out B c t n' R') : ∀ i, R i ≤ R' i := by
  obtain ⟨j, rfl, h1, h2⟩ := h
  obtain ⟨j', rfl, h1', h2'⟩ := h'
  intro i
  by_cases e : j ≤ j'
  · exact K_mono B t i e
  · cases hx : aNx t capB (aK B t j') B with
    | none =>
      have := K_end hx (j - j')
      rw [show j' + (j - j') = j by omega] at this
      rw [this]; exact Int.le_refl _
    | some i0 =>
      have a := h2' i0 hx
      rw [← K_next hx] at a
      have b := mul_chans hc (pr_mono hB t (n := j' + 1) (m := j) (by omega))
      rcases h1 with h1 | h1
      · omega
      · omega
/-- A budget comes to one thing alone. -/
theorem out_one {B : Nat} (hB : B ≤ 5) {c t n : Int} (hc : 1 ≤ c) {R R' : Nat → Int} (h : Out B c t n R) (h' : Out B c t n R') : R = R' := by
  funext i
  have a := out_more hB hc (Int.le_refl _) h h' i
  have b := out_more hB hc (Int.le_refl _) h' h i
  omega
/-- Two channels get of twice the budget, or one more, what one gets of it. -/
theorem out_two {B : Nat} {t n x : Int} (hx : x = 2 * n ∨ x = 2 * n + 1) {R : Nat → Int} (h : Out B 1 t n R) : Out B 2 t x R := by
  obtain ⟨j, e, h1, h2⟩ := h
  refine ⟨j, e, ?_, fun i hi => ?_⟩
  · rcases h1 with h1 | h1
    · exact .inl h1
    · right; omega
  · have := h2 i hi
    omega

/-- Out of the order: the walk by levels, band by band. -/
structure Lv (B : Nat) (c t n : Int) (L : Int) (b : Nat) (k : Nat → Int) : Prop where
  at_ : ∃ j, k = aK B t j ∧ (j = 0 ∨ c * aPr k B ≤ n)
  low : ∀ i, i < b → k i < capB i → L < aLev t k i
  high : ∀ i, b ≤ i → i < B → k i < capB i → L ≤ aLev t k i
section
variable {B : Nat} {c t n L : Int} {b : Nat} {k : Nat → Int}
theorem Lv.fit (h : Lv B c t n L b k) (hB : B ≤ 5) : Fit B k := by
  obtain ⟨j, rfl, _⟩ := h.at_
  exact fit_K hB t j
theorem Lv.start (hB : B ≤ 5) : Lv B c t n 1 0 (fun _ => 0) :=
  ⟨⟨0, rfl, .inl rfl⟩, fun i hi => by omega, fun i _ hi _ => by have := sl_bd t (i := i) (by omega); show (1 : Int) ≤ ((0 : Int) + 1) * aSl t i; omega⟩
theorem Lv.next (h : Lv B c t n L b k) (hb : b < B) (hk : k b < capB b) (hl : aLev t k b = L) : aNx t capB k B = some b :=
  nx_only hb hk fun i hi hc => by
    by_cases e : i < b
    · have := h.low i e hc; exact ⟨by omega, fun _ => by omega⟩
    · have := h.high i (by omega) hi hc; exact ⟨by omega, fun x => absurd x e⟩
theorem Lv.skip (h : Lv B c t n L b k) (hb : b < B) (hk : ¬ (k b < capB b ∧ aLev t k b = L)) : Lv B c t n L (b + 1) k :=
  ⟨h.at_, fun i hi hc => by
    by_cases e : i = b
    · subst e
      have := h.high i (Nat.le_refl _) hb hc
      have : aLev t k i ≠ L := fun x => hk ⟨hc, x⟩
      omega
    · exact h.low i (by omega) hc, fun i hi => h.high i (by omega)⟩
theorem Lv.give (h : Lv B c t n L b k) (hB : B ≤ 5) (hb : b < B) (hk : k b < capB b) (hl : aLev t k b = L) (hp : c * aPr (aMore k b) B ≤ n) : Lv B c t n L (b + 1) (aMore k b) := by
  have hx := h.next hb hk hl
  have hlv : ∀ i, i ≠ b → aLev t (aMore k b) i = aLev t k i := fun i e => by unfold aLev; rw [more_other _ e]
  refine ⟨?_, fun i hi hc => ?_, fun i hi hi2 hc => ?_⟩
  · obtain ⟨j, rfl, _⟩ := h.at_
    exact ⟨j + 1, (K_next hx).symm, .inr hp⟩
  · by_cases e : i = b
    · subst e
      have hs := (sl_bd t (i := i) (by omega)).1
      have : aLev t (aMore k i) i = aLev t k i + aSl t i := by
        unfold aLev; rw [more_same, Int.add_mul (k i + 1), Int.one_mul]
      omega
    · rw [hlv i e]
      rw [more_other _ e] at hc
      exact h.low i (by omega) hc
  · rw [hlv i (by omega)]
    rw [more_other _ (by omega)] at hc
    exact h.high i (by omega) hi2 hc
theorem Lv.row (h : Lv B c t n L B k) : Lv B c t n (L + 1) 0 k :=
  ⟨h.at_, fun i hi => by omega, fun i _ hi hc => by have := h.low i hi hc; omega⟩
theorem Lv.stop (h : Lv B c t n L b k) (hb : b < B) (hk : k b < capB b) (hl : aLev t k b = L) (hp : n < c * aPr (aMore k b) B) : Out B c t n k := by
  have hx := h.next hb hk hl
  obtain ⟨j, e, h1⟩ := h.at_
  exact ⟨j, e, h1, fun i hi => by rw [hx] at hi; cases hi; exact hp⟩
theorem lev_bd {k : Nat → Int} {i : Nat} (hi : i < 5) (h0 : 0 ≤ k i) (h1 : k i ≤ 32) : 1 ≤ aLev t k i ∧ aLev t k i ≤ 1320 := by
  unfold aLev
  obtain ⟨a, b⟩ := sl_bd t hi
  have h2 : (k i + 1) * aSl t i ≤ (k i + 1) * 40 := Int.mul_le_mul_of_nonneg_left b (by omega)
  have h3 : (k i + 1) * 1 ≤ (k i + 1) * aSl t i := Int.mul_le_mul_of_nonneg_left a (by omega)
  omega
theorem Lv.done (h : Lv B c t n L 0 k) (hB : B ≤ 5) (hL : 3000 < L) : Out B c t n k := by
  obtain ⟨j, e, h1⟩ := h.at_
  refine ⟨j, e, h1, fun i hi => ?_⟩
  obtain ⟨a, b, _⟩ := nx_some hi
  have hf := h.fit hB
  have := h.high i (Nat.zero_le _) a b
  have := capB_bd (i := i) (by omega)
  have := (lev_bd (t := t) (k := k) (i := i) (by omega) (hf.pos i) (by omega)).2
  omega
end

/-- What may be asked of a band: its width, and so many pulses. -/
def aMay (wd x : Int) : Bool := if wd = 0 then decide (x = 0) else decide (btI wd x ≠ -1)
def aOk (s c : Int) (k : Nat → Int) : Nat → Bool
  | 0 => true
  | n + 1 => aOk s c k n && aMay (widthF s c n) (k n)
/-- What any pulses cost in any mode. -/
def aTot (s c : Int) (k : Nat → Int) : Int := if right s c ∧ aOk s c k 5 = true then aPr k (bandsF s c).toNat * c else -1
def aSlI (s c t b : Int) : Int := if hasB s c b then aSl t b.toNat else 0

theorem ok_less {s c : Int} {k : Nat → Int} {n : Nat} (h : aOk s c k n = false) : ∀ {m : Nat}, n ≤ m → aOk s c k m = false
  | 0, hm => by obtain rfl : n = 0 := by omega
                exact h
  | m + 1, hm => by
    by_cases e : n = m + 1
    · rw [← e]; exact h
    · rw [aOk, ok_less h (m := m) (by omega), Bool.false_and]
theorem bands_right {s c : Int} (h : right s c) : bandsF s c = 3 + s := if_pos h
theorem bands_nat {s c : Int} (h : right s c) : ∃ B : Nat, bandsF s c = B ∧ (B : Int) = 3 + s ∧ 3 ≤ B ∧ B ≤ 5 := by
  refine ⟨(bandsF s c).toNat, ?_, ?_, ?_, ?_⟩ <;> rw [bands_right h] <;> unfold right at h <;> omega
theorem width_in {s c : Int} {b B : Nat} (hB : bandsF s c = B) (h : b < B) : widthF s c b = widF b := by
  unfold widthF; rw [if_pos (by unfold hasB; omega)]; rfl
theorem width_out {s c : Int} {b B : Nat} (hB : bandsF s c = B) (h : ¬ b < B) : widthF s c b = 0 := by
  unfold widthF; rw [if_neg (by unfold hasB; omega)]
theorem ok_fit {s c : Int} {B : Nat} (hB : bandsF s c = B) (h5 : B ≤ 5) {k : Nat → Int} (h : Fit B k) : ∀ n, aOk s c k n = true
  | 0 => rfl
  | n + 1 => by
    rw [aOk, ok_fit hB h5 h n, Bool.true_and]
    unfold aMay
    by_cases hn : n < B
    · rw [width_in hB hn]
      have := wid_bd (i := n) (by omega)
      rw [if_neg (by omega)]
      have := (btB (i := n) (by omega) (h.pos n) (h.cap n hn)).1
      exact decide_eq_true (by omega)
    · rw [width_out hB hn, if_pos rfl]
      exact decide_eq_true (h.out n (by omega))
theorem tot_fit {s c : Int} (hr : right s c) {B : Nat} (hB : bandsF s c = B) (h5 : B ≤ 5) {k : Nat → Int} (h : Fit B k) : aTot s c k = aPr k B * c := by
  unfold aTot
  rw [if_pos ⟨hr, ok_fit hB h5 h 5⟩, hB]; rfl
theorem tot_bd (s c : Int) (k : Nat → Int) : -1000 ≤ aTot s c k ∧ aTot s c k ≤ 1000 := by
  unfold aTot
  split
  · rename_i h
    obtain ⟨B, hB, _, _, h5⟩ := bands_nat h.1
    rw [hB, Int.toNat_natCast]
    have hp := pr_bd (k := k) B
    have hc : c = 1 ∨ c = 2 := by have := h.1; unfold right at this; omega
    rcases hc with rfl | rfl <;> omega
  · omega
end Go.Proofs.YtfgpmdikkncckaaGreatDoor
