/-
  Vectors as numbers, as plain mathematics: a number's place in the order, how many vectors go ahead of one, that those of one length and as many pulses are told apart by it, in order, and that there is one for each rank. No condition; no program.
-/
import Derived.Test.YtfgpmdikkncckaaDoorCountMath
namespace Go.Proofs.YtfgpmdikkncckaaDoor
set_option linter.unusedVariables false

/-- A number's place in the order 0, 1, -1, 2, -2, .. -/
def place (x : Int) : Nat := if 0 < x then (2 * x - 1).toNat else (-2 * x).toNat
/-- The number at a place. -/
def num (p : Nat) : Int := if p % 2 = 1 then ((p + 1) / 2 : Nat) else -((p / 2 : Nat) : Int)
theorem num_place (x : Int) : num (place x) = x := by unfold num place; split <;> split <;> omega
theorem place_num (p : Nat) : place (num p) = p := by unfold num place; split <;> split <;> omega
theorem num_abs (p : Nat) : (num p).natAbs = (p + 1) / 2 := by unfold num; split <;> omega
theorem num_zero : num 0 = 0 := rfl
theorem num_pos {p : Nat} (h : 0 < num p) : -num p = num (p + 1) := by unfold num at *; split at h <;> split <;> omega
theorem num_neg {p : Nat} (h : ¬ 0 < num p) : 1 - num p = num (p + 1) := by unfold num at *; split at h <;> split <;> omega
theorem place_inj {x y : Int} (h : place x = place y) : x = y := by rw [← num_place x, h, num_place]
theorem place_half (x : Int) : (place x + 1) / 2 = x.natAbs := by unfold place; split <;> omega
theorem place_le (x : Int) : place x ≤ 2 * x.natAbs := by unfold place; split <;> omega
theorem place_zero : place 0 = 0 := rfl
theorem place_neg {z : Int} (h : 0 < z) : place (-z) = place z + 1 := by unfold place; rw [if_neg (by omega), if_pos h]; omega
theorem place_lt_abs {x y : Int} (h : x.natAbs ≠ y.natAbs) : place x < place y ↔ x.natAbs < y.natAbs := by
  unfold place; split <;> split <;> omega
theorem place_lt_same {x y : Int} (h : x.natAbs = y.natAbs) (hne : x ≠ y) : place x < place y ↔ y < x := by
  unfold place; split <;> split <;> omega

/-- How many pulses a vector has; and as the program counts them. -/
def pul : List Int → Nat
  | [] => 0
  | x :: r => x.natAbs + pul r
def pul1 : List Int → Nat
  | [] => 0
  | x :: r => min x.natAbs 1000 + pul1 r
theorem pul1_le : ∀ r, pul1 r ≤ 1000 * r.length
  | [] => Nat.le_refl _
  | x :: r => by have := pul1_le r; simp only [pul1, List.length_cons]; omega
theorem pul1_is : ∀ r, pul r ≤ 1000 → pul1 r = pul r
  | [], _ => rfl
  | x :: r, h => by simp only [pul] at h; simp only [pul, pul1]; rw [pul1_is r (by omega)]; omega
theorem pul1_more : ∀ r, ¬ pul r ≤ 32 → ¬ pul1 r ≤ 32
  | [], h => h
  | x :: r, h => by
    simp only [pul] at h
    simp only [pul1]
    by_cases h1 : pul r ≤ 32
    · rw [pul1_is r (by omega)]; omega
    · have := pul1_more r h1; omega
theorem pul_app : ∀ r s, pul (r ++ s) = pul r + pul s
  | [], s => by simp [pul]
  | x :: r, s => by simp only [List.cons_append, pul, pul_app r s]; omega
theorem pul_at : ∀ (r : List Int) (i : Nat) (x : Int), r[i]? = some x → x.natAbs ≤ pul r
  | [], i, x, h => by simp at h
  | y :: r, 0, x, h => by simp at h; subst h; simp only [pul]; omega
  | y :: r, i + 1, x, h => by simp at h; have := pul_at r i x h; simp only [pul]; omega
theorem pul_drop : ∀ (r : List Int) (i : Nat) (x : Int), r[i]? = some x → pul (r.drop i) = x.natAbs + pul (r.drop (i + 1))
  | [], i, x, h => by simp at h
  | y :: r, 0, x, h => by simp at h; subst h; simp [pul]
  | y :: r, i + 1, x, h => by simp at h; have := pul_drop r i x h; simpa using this
theorem pul_zero : ∀ r : List Int, pul r = 0 → ∀ (i : Nat) (x : Int), r[i]? = some x → x = 0 := by
  intro r h i x hx
  have := pul_at r i x hx
  omega

/-- How many vectors of n numbers more and k pulses have a first number ahead of place p. -/
def sm (n k : Nat) : Nat → Nat
  | 0 => 0
  | p + 1 => sm n k p + vv n (k - (p + 1) / 2)
theorem chk_sm : all2 16 33 (fun n k => Nat.beq (sm n k (2 * k + 1)) (vv (n + 1) k)) = true := by kernel_rfl
theorem sm_all {n k : Nat} (hn : n < 16) (hk : k ≤ 32) : sm n k (2 * k + 1) = vv (n + 1) k := Nat.eq_of_beq_eq_true (all2_at chk_sm hn (by omega))
theorem sm_mono (n k : Nat) {p q : Nat} (h : p ≤ q) : sm n k p ≤ sm n k q := by
  induction q with
  | zero => obtain rfl : p = 0 := by omega
            exact Nat.le_refl _
  | succ q ih =>
    by_cases e : p = q + 1
    · subst e; exact Nat.le_refl _
    · exact Nat.le_trans (ih (by omega)) (Nat.le_add_right _ _)
theorem sm_place (n k : Nat) (x : Int) : sm n k (place x + 1) = sm n k (place x) + vv n (k - x.natAbs) := by rw [sm, place_half]
theorem sm_le {n k p : Nat} (hn : n < 16) (hk : k ≤ 32) (hp : p ≤ 2 * k + 1) : sm n k p ≤ vv (n + 1) k := by rw [← sm_all hn hk]; exact sm_mono n k hp

/-- A vector's rank. -/
def rk : List Int → Nat → Nat
  | [], _ => 0
  | x :: r, k => sm r.length k (place x) + rk r (k - x.natAbs)
theorem rk_lt : ∀ (r : List Int), r.length ≤ 16 → ∀ k, k ≤ 32 → pul r = k → rk r k < vv r.length k
  | [], _, k, hk, h => by simp only [pul] at h; subst h; show 0 < vv 0 0; decide
  | x :: r, hl, k, hk, h => by
    simp only [List.length_cons] at hl
    simp only [pul] at h
    have h1 := rk_lt r (by omega) (k - x.natAbs) (by omega) (by omega)
    have h2 := sm_place r.length k x
    have h3 := place_le x
    have h4 := sm_le (n := r.length) (k := k) (p := place x + 1) (by omega) hk (by omega)
    simp only [rk, List.length_cons]
    omega
theorem rk_bd (r : List Int) (hl : r.length ≤ 16) (k : Nat) (hk : k ≤ 32) (h : pul r = k) : rk r k ≤ 2460955893981184 :=
  Nat.le_trans (Nat.le_of_lt (rk_lt r hl k hk h)) (vv_bd hl hk)
theorem rk_zeros (r : List Int) (k : Nat) : ∀ m, rk (List.replicate m 0 ++ r) k = rk r k
  | 0 => by simp
  | m + 1 => by
    rw [List.replicate_succ, List.cons_append, rk, place_zero, sm]
    simpa using rk_zeros r k m
theorem pul_zeros (r : List Int) : ∀ m, pul (List.replicate m 0 ++ r) = pul r
  | 0 => by simp
  | m + 1 => by
    rw [List.replicate_succ, List.cons_append, pul]
    simpa using pul_zeros r m

/-- Does a vector go ahead of one that is as long? -/
def bef : List Int → List Int → Bool
  | x :: r, y :: s => if x = y then bef r s else decide (place x < place y)
  | _, _ => false
theorem bef_lt : ∀ (r s : List Int), r.length = s.length → r.length ≤ 16 → ∀ k, k ≤ 32 → pul r = k → pul s = k → (bef r s = true ↔ rk r k < rk s k)
  | [], [], _, _, k, hk, _, _ => by simp [bef, rk]
  | [], y :: s, h, _, _, _, _, _ => by simp at h
  | x :: r, [], h, _, _, _, _, _ => by simp at h
  | x :: r, y :: s, h, hl, k, hk, h1, h2 => by
    simp only [List.length_cons] at h hl
    simp only [pul] at h1 h2
    have hl' : r.length = s.length := by omega
    by_cases e : x = y
    · subst e
      have ih := bef_lt r s (by omega) (by omega) (k - x.natAbs) (by omega) (by omega) (by omega)
      simp only [bef, if_true, rk, hl']
      rw [ih]
      omega
    · simp only [bef, if_neg e, decide_eq_true_iff, rk, hl']
      have key : ∀ {a b : Int} {t u : List Int}, t.length = s.length → u.length = s.length → a.natAbs + pul t = k → b.natAbs + pul u = k → place a < place b → sm s.length k (place a) + rk t (k - a.natAbs) < sm s.length k (place b) + rk u (k - b.natAbs) := by
        intro a b t u ht hu ha hb hab
        have c1 := rk_lt t (by omega) (k - a.natAbs) (by omega) (by omega)
        have c2 := sm_place s.length k a
        have c3 := sm_mono s.length k (p := place a + 1) (q := place b) hab
        rw [ht] at c1
        omega
      constructor
      · exact key hl' rfl h1 h2
      · intro hlt
        by_cases c : place x < place y
        · exact c
        · have hne : place x ≠ place y := fun e' => e (place_inj e')
          have := key (a := y) (b := x) (t := s) (u := r) rfl hl' h2 h1 (by omega)
          omega
theorem bef_any : ∀ (r s : List Int), r.length = s.length → r ≠ s → bef r s = true ∨ bef s r = true
  | [], [], _, h => absurd rfl h
  | [], y :: s, h, _ => by simp at h
  | x :: r, [], h, _ => by simp at h
  | x :: r, y :: s, h, hne => by
    simp only [List.length_cons] at h
    by_cases e : x = y
    · subst e
      simp only [bef, if_true]
      exact bef_any r s (by omega) (fun e => hne (by rw [e]))
    · have e' : ¬ y = x := fun h => e h.symm
      simp only [bef, if_neg e, if_neg e', decide_eq_true_iff]
      have : place x ≠ place y := fun h => e (place_inj h)
      omega
theorem rk_inj {r s : List Int} (hl : r.length = s.length) (hn : r.length ≤ 16) {k : Nat} (hk : k ≤ 32) (h1 : pul r = k) (h2 : pul s = k) (h : rk r k = rk s k) : r = s := by
  by_cases e : r = s
  · exact e
  · rcases bef_any r s hl e with h3 | h3
    · rw [bef_lt r s hl hn k hk h1 h2] at h3; omega
    · rw [bef_lt s r hl.symm (by omega) k hk h2 h1] at h3; omega
theorem bef_same : ∀ r, bef r r = false
  | [] => rfl
  | x :: r => by simp only [bef, if_true]; exact bef_same r
theorem bef_push : ∀ (p q : List Int) (s t : Int), p.length = q.length → bef (p ++ [s]) (q ++ [t]) = if p = q then (if s = t then false else decide (place s < place t)) else bef p q
  | [], [], s, t, _ => by simp [bef]
  | [], y :: q, s, t, h => by simp at h
  | x :: p, [], s, t, h => by simp at h
  | x :: p, y :: q, s, t, h => by
    simp only [List.length_cons] at h
    have ih := bef_push p q s t (by omega)
    by_cases e : x = y
    · subst e
      simp only [List.cons_append, bef, if_true, ih]
      by_cases e2 : p = q
      · subst e2; simp
      · simp [e2]
    · simp [bef, e]

/-- The place of the first number of the vector of a rank. -/
theorem first_at {n k : Nat} (hn : n < 16) (hk : k ≤ 32) {i p : Nat} (hi : i < vv (n + 1) k) (hp : sm n k p ≤ i) : p ≤ 2 * k := by
  by_cases h : p ≤ 2 * k
  · exact h
  · have := sm_mono n k (p := 2 * k + 1) (q := p) (by omega)
    rw [sm_all hn hk] at this
    omega

theorem vI_sub {n k h : Nat} (hn : n ≤ 16) (hk : k ≤ 32) (hh : h ≤ k) : vI (n : Int) ((k : Int) - (h : Int)) = vv n (k - h) := by
  unfold vI
  rw [if_pos (by omega)]
  congr 1
  omega
theorem vI_nat {n k : Nat} (hn : n ≤ 16) (hk : k ≤ 32) : vI (n : Int) (k : Int) = vv n k := by
  unfold vI
  rw [if_pos (by omega)]
  rfl
theorem vI_in {n k : Int} {i : Nat} (h : i < vI n k) : 0 ≤ n ∧ n ≤ 16 ∧ 0 ≤ k ∧ k ≤ 32 := by
  unfold vI at h
  split at h
  · assumption
  · omega

/-- The document's sum over magnitudes: the places of 0 to m - 1, both signs, that are ahead of place P. -/
theorem ref_both (n k P m : Nat) : sm n k (min P (2 * (m + 1) - 1)) = sm n k (min P (2 * m - 1)) + (if place m < P then vv n (k - m) else 0) + (if 0 < m ∧ place (-(m : Int)) < P then vv n (k - m) else 0) := by
  by_cases m0 : m = 0
  · subst m0
    have e : place ((0 : Nat) : Int) = 0 := rfl
    rw [e]
    by_cases hP : 0 < P
    · rw [if_pos hP, if_neg (by omega), show min P (2 * (0 + 1) - 1) = 1 by omega, show min P (2 * 0 - 1) = 0 by omega]
      simp [sm]
    · rw [if_neg hP, if_neg (by omega), show min P (2 * (0 + 1) - 1) = 0 by omega, show min P (2 * 0 - 1) = 0 by omega]
      rfl
  · have e1 : place (m : Int) = 2 * m - 1 := by unfold place; split <;> omega
    have e2 : place (-(m : Int)) = 2 * m := by unfold place; split <;> omega
    have s1 : sm n k (2 * m) = sm n k (2 * m - 1) + vv n (k - m) := by
      have : 2 * m = (2 * m - 1) + 1 := by omega
      rw [this, sm]
      congr 2
      omega
    have s2 : sm n k (2 * m + 1) = sm n k (2 * m) + vv n (k - m) := by
      rw [sm]
      congr 2
      omega
    rw [e1, e2]
    by_cases h1 : 2 * m - 1 < P
    · by_cases h2 : 2 * m < P
      · rw [if_pos h1, if_pos ⟨by omega, h2⟩, show min P (2 * (m + 1) - 1) = 2 * m + 1 by omega, show min P (2 * m - 1) = 2 * m - 1 by omega, s2, s1]
      · rw [if_pos h1, if_neg (by omega), show min P (2 * (m + 1) - 1) = 2 * m by omega, show min P (2 * m - 1) = 2 * m - 1 by omega, s1]
        rfl
    · rw [if_neg h1, if_neg (by omega), show min P (2 * (m + 1) - 1) = P by omega, show min P (2 * m - 1) = P by omega]
      rfl

/-- All vectors, in order, are those of the ranks from 0 on. -/
def chkL (n k : Nat) : Nat → List (List Int) → Bool
  | _, [] => true
  | i, r :: l => Nat.beq r.length n && Nat.beq (pul r) k && Nat.beq (rk r k) i && chkL n k (i + 1) l
theorem chk_all : all2 5 6 (fun n k => chkL n k 0 (allL n k)) = true := by kernel_rfl
theorem chkL_at {n k : Nat} : ∀ (l : List (List Int)) (i : Nat), chkL n k i l = true → ∀ (j : Nat) (r : List Int), l[j]? = some r → r.length = n ∧ pul r = k ∧ rk r k = i + j
  | [], i, _, j, r, h => by simp at h
  | s :: l, i, hc, j, r, h => by
    simp only [chkL, Bool.and_eq_true] at hc
    obtain ⟨⟨⟨c1, c2⟩, c3⟩, c4⟩ := hc
    cases j with
    | zero =>
      simp at h
      subst h
      exact ⟨Nat.eq_of_beq_eq_true c1, Nat.eq_of_beq_eq_true c2, Nat.eq_of_beq_eq_true c3⟩
    | succ j =>
      simp at h
      obtain ⟨a, b, c⟩ := chkL_at l (i + 1) c4 j r h
      exact ⟨a, b, by omega⟩
theorem all_rank {n k : Nat} (hn : n < 5) (hk : k < 6) {i : Nat} {r : List Int} (h : (allL n k)[i]? = some r) : r.length = n ∧ pul r = k ∧ rk r k = i := by
  have := chkL_at (allL n k) 0 (all2_at chk_all hn hk) i r h
  simpa using this

/-- A vector whose first number that isn't 0 is turned. -/
theorem turn_rank (m : Nat) (z : Int) (t : List Int) (k : Nat) (hz : 0 < z) : rk (List.replicate m 0 ++ (-z) :: t) k = rk (List.replicate m 0 ++ z :: t) k + vv t.length (k - z.natAbs) := by
  rw [rk_zeros, rk_zeros, rk, rk, place_neg hz, sm_place]
  have : (-z).natAbs = z.natAbs := by omega
  rw [this]
  omega
theorem turn_pul (m : Nat) (z : Int) (t : List Int) : pul (List.replicate m 0 ++ (-z) :: t) = pul (List.replicate m 0 ++ z :: t) := by
  rw [pul_zeros, pul_zeros, pul, pul]
  omega
theorem zeros_split : ∀ (r : List Int) (m : Nat) (z : Int), (∀ j, j < m → r[j]? = some 0) → r[m]? = some z → r = List.replicate m 0 ++ z :: r.drop (m + 1)
  | [], m, z, _, h => by simp at h
  | x :: r, 0, z, _, h => by simp at h; subst h; simp
  | x :: r, m + 1, z, hz, h => by
    have h0 := hz 0 (by omega)
    simp at h0 h
    subst h0
    have ih := zeros_split r m z (fun j hj => by have := hz (j + 1) (by omega); simpa using this) h
    rw [List.replicate_succ, List.cons_append]
    congr 1
theorem zeros_set (m : Nat) (z y : Int) (t : List Int) : (List.replicate m 0 ++ z :: t).set m y = List.replicate m 0 ++ y :: t := by
  rw [List.set_append_right _ _ (by simp)]
  simp
end Go.Proofs.YtfgpmdikkncckaaDoor
